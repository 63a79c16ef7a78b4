import Derived.Test.YtjiblajnfnmjnaaGreatDoorVQ
import Derived.Test.YtjiblajnfnmjnaaGreatDoorKW6
import Derived.Test.YtjiblajnfnmjnaaGreatDoorKPg
import Derived.Test.YtjiblajnfnmjnaaGreatDoorDRe
import Derived.Test.YtjiblajnfnmjnaaGreatDoorRRLift
import Derived.Test.YtjiblajnfnmjnaaGreatDoorTie
import Derived.Test.YtjiblajnfnmjnaaGreatDoorCards
import Derived.SevenTiedAt
set_option maxHeartbeats 8000000
set_option maxRecDepth 100000
namespace Go.Proofs.YtjiblajnfnmjnaaGreatDoor.C
open Go.RowKit Go Go.Sort
theorem at_of_take {W : World} {g k : Nat} {cur : Array Value} {t : TypeId} {fr : Nat × Nat} {xs ys : List Value} (h : W.heap[g]? = some (.cells cur t fr)) (h4 : cur.toList.take k = xs ++ ys) : At W g 0 xs := fun j u hu => by
  rw [blk_cell h, Nat.zero_add]
  refine arr_get h4 ?_
  obtain ⟨hj, _⟩ := List.getElem?_eq_some_iff.1 hu
  rw [List.getElem?_append_left hj]; exact hu
theorem LRow.sl {W : World} {base n c : Nat} {l : List Val} {ao : Option Addr} (h : LRow W base l (.slice ao n c)) : SL W ao (vcl l) := fun hne => by
  rcases h with ⟨rfl, _⟩ | ⟨g, cap, cur, e, h1, h2, h3, h4⟩
  · exact absurd rfl hne
  · simp only [Value.slice.injEq] at e
    refine ⟨g, 0, e.1, at_of_take (ys := vcl [mkV]) h3 (h4.trans ?_)⟩
    unfold vcl; simp [f3]
theorem LCol.ck {W : World} {base : Nat} {p : Tbl × Value} (h : LCol W base p.1.cols p.2) : ∃ co cc, CK W (fun _ => False) p co cc := by
  rcases h with ⟨e1, e2⟩ | ⟨g, cap, cur, e, h1, h2, h3, h4⟩
  · refine ⟨none, 0, by rw [e2, e1]; rfl, fun hne => absurd (by rw [e1]; rfl) hne, fun _ => ⟨e1, rfl⟩, by rw [e1]; exact Nat.le_refl _, fun hne => absurd e1 hne⟩
  · refine ⟨some ⟨g, 0, none⟩, cap, e, fun _ => ⟨g, 0, rfl, at_of_take (ys := ccl [mkL]) h3 (h4.trans ?_)⟩, fun h => (by cases h), by omega, fun _ g' o e' => ⟨fun h => h, ?_⟩⟩
    · rw [ccl_snoc]; rfl
    · simp only [Option.some.injEq, Addr.mk.injEq] at e'
      rw [← e'.1]; exact blk_lt h3
theorem LW.rw {W : World} {base : Nat} {r : Rc} {s : Sk} (h : LW W base r s) (hsz : SZ r) (hoi : ∀ v ∈ r.o, v.i64) (hni : ∀ v ∈ r.n, v.i64) : RW W (fun _ => False) r s := by
  have hlen : s.P.length = r.tbs.length := by rw [← h.eq, List.length_map]
  refine ⟨h.o.sl, h.n.sl, ?_, ⟨fun hne => ?_, fun _ _ _ _ h => h, fun i hi => (h.p i hi).ck⟩, h.eq, fun _ _ _ _ h => h, fun _ _ _ _ h => h, hoi, hni, ?_, ?_, ?_, ?_, fun i hi => ?_⟩
  · obtain ⟨co, cc, hk⟩ := LCol.ck (p := (r.tb, .slice s.co r.tb.cols.length s.cc)) h.c
    have e := hk.eq
    simp only [Value.slice.injEq] at e
    rw [e.1, e.2.2]
    have e3 : (r.tb, Value.slice co r.tb.cols.length cc) = (r.tb, Value.slice s.co r.tb.cols.length s.cc) := by rw [e.1, e.2.2]
    rw [e3]; exact hk
  · rcases h.t with ⟨e, _⟩ | ⟨g, cap, cur, e, h1, h2, h3, h4⟩
    · rw [e] at hne; exact absurd rfl hne
    · simp only [Value.slice.injEq] at e
      exact ⟨g, 0, e.1, at_of_take (ys := tcl [mkTb]) h3 (h4.trans (tcl_append _ _))⟩
  · have := hsz.o; omega
  · have := hsz.n; omega
  · have := hsz.c; omega
  · have := hsz.t; omega
  · have := hsz.p s.P[i].1 (by rw [← h.eq]; exact List.mem_map_of_mem (List.getElem_mem hi))
    omega
open Classical in
noncomputable def encS (r : Rc) : ByteArray := if RR r then bB (recL r) else ⟨#[]⟩
open Classical in
noncomputable def encI (r : Rc) : Int := if RR r then 0 else errR r
open Classical in
noncomputable def prtS (r : Rc) : ByteArray := if RR r then recB r else ⟨#[63]⟩
theorem encode_all (r : Rc) (s : Sk) (F : Nat → Prop) (w : World) (hg : HE w) (h : RW w F r s) : Calls Tryz.prog 13 #[rV r s] w fun x w' => x = .returned (.tuple #[.string (encS r), .int .i64 (encI r)]) ∧ Tch (fun _ => False) w w' := by
  unfold encS encI
  by_cases hr : RR r
  · rw [if_pos hr, if_pos hr]; exact encode_ok r s F w hg h hr.1 hr.2.symm
  · rw [if_neg hr, if_neg hr]; exact encode_no r s F w hg h hr
theorem renc_all (r : Rc) (s : Sk) (F : Nat → Prop) (w : World) (hi : RI r) (h : RW w F r s) : Calls Tryz.prog 18 #[rV r s] w fun x w' => x = .returned (.tuple #[.string (encS r), .int .i64 (encI r)]) ∧ Tch (fun _ => False) w w' := by
  unfold encS encI
  by_cases hr : RR r
  · rw [if_pos hr, if_pos hr]; exact renc_ok r s F w hi h hr
  · rw [if_neg hr, if_neg hr]; exact renc_no r s F w hi h hr
theorem print_all (r : Rc) (s : Sk) (F : Nat → Prop) (w : World) (hg : HE w) (hvb : HVB w) (hv : HP w) (hwd : HWd w) (h : RW w F r s) : Calls Tryz.prog 19 #[rV r s] w fun x w' => x = .returned (.string (prtS r)) ∧ Tch (fun _ => False) w w' := by
  unfold prtS
  by_cases hr : RR r
  · rw [if_pos hr]; exact print_ok r s F w hg hvb hv hwd h hr
  · rw [if_neg hr]; exact print_no r s F w hg h hr
theorem rprint_all (r : Rc) (s : Sk) (F : Nat → Prop) (w : World) (hi : RI r) (h : RW w F r s) : Calls Tryz.prog 21 #[rV r s] w fun x w' => x = .returned (.string (prtS r)) ∧ Tch (fun _ => False) w w' := by
  unfold prtS
  by_cases hr : RR r
  · rw [if_pos hr]; exact rprint_ok r s F w hi h hr
  · rw [if_neg hr]; exact rprint_no r s F w hi h hr
abbrev boxS (r : Rc) (s : Sk) : Array Value := boxR r (.slice s.oo r.o.length s.oc) (.slice s.no r.n.length s.nc) (.slice s.co r.tb.cols.length s.cc) (.slice s.to s.P.length s.tc)
theorem box_cells {W : World} {B : Nat} {r : Rc} {s : Sk} (h : W.heap[B]? = some (.cells (boxS r s) 37 (0, 0))) : W.cell? ⟨B, 0, none⟩ = some (.int .i64 r.k) ∧ W.cell? ⟨B, 1, none⟩ = some (.int .i64 r.x) ∧ W.cell? ⟨B, 2, none⟩ = some (.int .i64 r.p) ∧ W.cell? ⟨B, 3, none⟩ = some (.int .i64 r.t) ∧ W.cell? ⟨B, 4, none⟩ = some (.slice s.oo r.o.length s.oc) ∧ W.cell? ⟨B, 5, none⟩ = some (.slice s.no r.n.length s.nc) ∧ W.cell? ⟨B, 6, none⟩ = some (.string r.nm) ∧ W.cell? ⟨B, 7, none⟩ = some (.int .i64 r.org) ∧ W.cell? ⟨B, 8, none⟩ = some (.int .i64 r.tb.id) ∧ W.cell? ⟨B, 9, none⟩ = some (.int .i64 r.tb.ver) ∧ W.cell? ⟨B, 10, none⟩ = some (.string r.tb.nm) ∧ W.cell? ⟨B, 11, none⟩ = some (.slice s.co r.tb.cols.length s.cc) ∧ W.cell? ⟨B, 12, none⟩ = some (.int .i64 r.tb.key) ∧ W.cell? ⟨B, 13, none⟩ = some (.slice s.to s.P.length s.tc) :=
  ⟨blk_cell h 0, blk_cell h 1, blk_cell h 2, blk_cell h 3, blk_cell h 4, blk_cell h 5, blk_cell h 6, blk_cell h 7, blk_cell h 8, blk_cell h 9, blk_cell h 10, blk_cell h 11, blk_cell h 12, blk_cell h 13⟩
theorem LW.no {W W' : World} {base : Nat} {r : Rc} {s : Sk} (h : LW W base r s) (t : Tch (fun _ => False) W W') : LW W' base r s := by
  refine ⟨h.o.tch (Nat.le_refl _) t (fun _ _ h => h), h.n.tch (Nat.le_refl _) t (fun _ _ h => h), h.c.tch (Nat.le_refl _) t (fun _ _ h => h), h.eq, ?_, fun i hi => (h.p i hi).tch (Nat.le_refl _) t (fun _ _ h => h)⟩
  rcases h.t with e | ⟨g, cap, cur, e, h1, h2, h3, h4⟩
  · exact Or.inl e
  · exact Or.inr ⟨g, cap, cur, e, h1, h2, (t.block g (blk_lt h3) (fun h => h)).trans h3, h4⟩
theorem recenc_law (r : Rc) (s : Sk) (w : World) (qk : ∀ W, Tch (fun _ => False) w W → Calls Tryz.prog 6 #[] W fun x w' => x = .returned (.bool true) ∧ Tch (fun _ => False) W w')
    (hG : ∀ W, Tch (fun _ => False) w W → HE W ∧ HVB W ∧ HP W ∧ HWd W) (h : RW w (fun _ => False) r s) (hnb : NB s) (hsz : SZ r) (hi : RI r) :
    Calls Tryz.prog 4 #[rV r s] w fun x w' => x = .returned (.bool true) ∧ Tch (fun _ => False) w w' := by
  obtain ⟨w0, hw0⟩ : ∃ w0, w0 = w.alloc (.cells (boxS r s) 37) := ⟨_, rfl⟩
  obtain ⟨B, hB⟩ : ∃ B, B = w.heap.size := ⟨_, rfl⟩
  have t0 : Tch (fun _ => False) w w0 := by rw [hw0]; exact Tch.alloc _ _ _
  have b0 : w0.heap[B]? = some (.cells (boxS r s) 37 (0, 0)) := by rw [hw0, hB]; exact heap_new w _
  have HBA : Hid (∀ W, Tch (fun _ => False) w0 W → W.heap[B]? = some (.cells (boxS r s) 37 (0, 0))) := fun W t => (t.block _ (blk_lt b0) (fun h => h)).trans b0
  have q0 := qk w0 t0
  have HW0 : Hid _ := hw0
  have HB : Hid (B = w.heap.size) := hB
  have HT0 : Hid (Tch (fun _ => False) w w0) := t0
  have HGG : Hid _ := hG
  have HRW : Hid (RW w (fun _ => False) r s) := h
  have HNB : Hid (NB s) := hnb
  have HSZ : Hid (SZ r) := hsz
  have HRI : Hid (RI r) := hi
  clear qk hG h hnb hsz hi hw0 hB t0 b0
  unfold rV rA
  go_enter Tryz.func4, Tryz.ntmps4
  go_wp2_with fail
  rw [← HW0.out, ← HB.out]
  refine q0.mono ?_
  rintro x w1 ⟨rfl, t1⟩
  clear q0
  have HT1 : Hid (Tch (fun _ => False) w0 w1) := t1
  have q1 := lent_any r s w1 (HRW.out.no (HT0.out.trans' t1)) HNB.out HSZ.out
  obtain ⟨y0, y1, y2, y3, y4, y5, y6, y7, y8, y9, y10, y11, y12, y13⟩ := box_cells (HBA.out w1 t1)
  clear t1
  go_wp2_with fail
  refine q1.mono ?_
  rintro x w2 ⟨⟨s', rfl, hL⟩, t2⟩
  clear q1 y0 y1 y2 y3 y4 y5 y6 y7 y8 y9 y10 y11 y12 y13
  go_simp
  iterate 6 (first | go_values | go_skip | go_guarded | go_step | go_upon | go_in | go_back)
  obtain ⟨w3, hw3⟩ : ∃ w3, w3 = w2.alloc (.cells (boxS r s') 37) := ⟨_, rfl⟩
  obtain ⟨D, hD⟩ : ∃ D, D = w2.heap.size := ⟨_, rfl⟩
  have t3 : Tch (fun _ => False) w2 w3 := by rw [hw3]; exact Tch.alloc _ _ _
  have b3 : w3.heap[D]? = some (.cells (boxS r s') 37 (0, 0)) := by rw [hw3, hD]; exact heap_new w2 _
  have t03 : Tch (fun _ => False) w0 w3 := (HT1.out.trans' t2).trans' t3
  have HB3 : Hid (∀ W, Tch (fun _ => False) w3 W → W.heap[B]? = some (.cells (boxS r s) 37 (0, 0)) ∧ W.heap[D]? = some (.cells (boxS r s') 37 (0, 0))) := fun W t => ⟨HBA.out W (t03.trans' t), (t.block _ (blk_lt b3) (fun h => h)).trans b3⟩
  have HLW : Hid (∀ W, Tch (fun _ => False) w3 W → LW W w1.heap.size r s') := fun W t => hL.no (t3.trans' t)
  have HRL : Hid (∀ W, Tch (fun _ => False) w3 W → RW W (fun _ => False) r s') := fun W t => (HLW.out W t).rw HSZ.out HRW.out.oi HRW.out.ni
  have HT3 : Hid (Tch (fun _ => False) w w3) := HT0.out.trans' t03
  have HRA : Hid (∀ W, Tch (fun _ => False) w3 W → RW W (fun _ => False) r s) := fun W t => HRW.out.no (HT3.out.trans' t)
  have HG3 : Hid (∀ W, Tch (fun _ => False) w3 W → HE W ∧ HVB W ∧ HP W ∧ HWd W) := fun W t => HGG.out W (HT3.out.trans' t)
  have HW3 : Hid _ := hw3
  have HD : Hid (D = w2.heap.size) := hD
  clear hw3 hD t3 b3 t03 hL t2 HBA HT1 HT0 HW0 HGG HRW
  rw [← HD.out]
  rw [show w2.alloc (.cells (boxS r s') 37) = w3 from HW3.out.symm]
  clear HW3 HD
  have q := encode_all r s' _ w3 (HG3.out w3 (Tch.refl _ _)).1 (HRL.out w3 (Tch.refl _ _))
  obtain ⟨v0, v1, v2, v3, v4, v5, v6, v7, v8, v9, v10, v11, v12, v13⟩ := box_cells (HB3.out w3 (Tch.refl _ _)).2
  go_wp2_with fail
  refine q.mono ?_
  rintro x w4 ⟨rfl, t4⟩
  clear q v0 v1 v2 v3 v4 v5 v6 v7 v8 v9 v10 v11 v12 v13
  have q := renc_all r s _ w4 HRI.out (HRA.out w4 t4)
  obtain ⟨y0, y1, y2, y3, y4, y5, y6, y7, y8, y9, y10, y11, y12, y13⟩ := box_cells (HB3.out w4 t4).1
  have HT4 : Hid (Tch (fun _ => False) w3 w4) := t4
  clear t4
  go_wp2_with fail
  refine q.mono ?_
  rintro x w5 ⟨rfl, t5⟩
  clear q y0 y1 y2 y3 y4 y5 y6 y7 y8 y9 y10 y11 y12 y13
  have T5 := HT4.out.trans' t5
  have q := print_all r s' _ w5 (HG3.out w5 T5).1 (HG3.out w5 T5).2.1 (HG3.out w5 T5).2.2.1 (HG3.out w5 T5).2.2.2 (HRL.out w5 T5)
  obtain ⟨v0, v1, v2, v3, v4, v5, v6, v7, v8, v9, v10, v11, v12, v13⟩ := box_cells (HB3.out w5 T5).2
  have HT5 : Hid (Tch (fun _ => False) w3 w5) := T5
  clear t5 T5 HT4
  go_wp2_with fail
  refine q.mono ?_
  rintro x w6 ⟨rfl, t6⟩
  clear q v0 v1 v2 v3 v4 v5 v6 v7 v8 v9 v10 v11 v12 v13
  have T6 := HT5.out.trans' t6
  have q := lsameG r s' s _ _ w6 (HRL.out w6 T6) (HRA.out w6 T6) (by have := HSZ.out.c; omega) (by have := HSZ.out.t; omega) (fun t ht => by have := HSZ.out.p t ht; omega)
  obtain ⟨v0, v1, v2, v3, v4, v5, v6, v7, v8, v9, v10, v11, v12, v13⟩ := box_cells (HB3.out w6 T6).2
  obtain ⟨y0, y1, y2, y3, y4, y5, y6, y7, y8, y9, y10, y11, y12, y13⟩ := box_cells (HB3.out w6 T6).1
  have HT6 : Hid (Tch (fun _ => False) w3 w6) := T6
  clear t6 T6 HT5
  go_wp2_with fail
  refine q.mono ?_
  rintro x w7 ⟨rfl, t7⟩
  clear q v0 v1 v2 v3 v4 v5 v6 v7 v8 v9 v10 v11 v12 v13 y0 y1 y2 y3 y4 y5 y6 y7 y8 y9 y10 y11 y12 y13
  have T7 := HT6.out.trans' t7
  have q := marks_any r s' _ w7 (HLW.out w7 T7) HSZ.out
  obtain ⟨v0, v1, v2, v3, v4, v5, v6, v7, v8, v9, v10, v11, v12, v13⟩ := box_cells (HB3.out w7 T7).2
  have HT7 : Hid (Tch (fun _ => False) w3 w7) := T7
  clear t7 T7 HT6
  go_wp2_with fail
  refine q.mono ?_
  rintro x w8 ⟨rfl, t8⟩
  clear q v0 v1 v2 v3 v4 v5 v6 v7 v8 v9 v10 v11 v12 v13
  have T8 := HT7.out.trans' t8
  have q := rprint_all r s _ w8 HRI.out (HRA.out w8 T8)
  obtain ⟨y0, y1, y2, y3, y4, y5, y6, y7, y8, y9, y10, y11, y12, y13⟩ := box_cells (HB3.out w8 T8).1
  have HT8 : Hid (Tch (fun _ => False) w3 w8) := T8
  clear t8 T8 HT7
  go_wp2_with fail
  refine q.mono ?_
  rintro x w9 ⟨rfl, t9⟩
  clear q y0 y1 y2 y3 y4 y5 y6 y7 y8 y9 y10 y11 y12 y13
  go_wp2_with fail
  go_ret
  exact ⟨rfl, (HT3.out.trans' HT8.out).trans' t9⟩
end Go.Proofs.YtjiblajnfnmjnaaGreatDoor.C
namespace Go.Proofs.YtjiblajnfnmjnaaGreatDoor.C
open Go.ChangeShapes Go.WideShapes Go.RowKit Go.Deep
set_option maxRecDepth 100000
theorem c_rw : Tryz.prog.cellsOf 24 = 1 := by kernel_rfl
theorem c_tbs : Tryz.prog.cellsOf 35 = 1 := by kernel_rfl
theorem c_rec : Tryz.prog.cellsOf 37 = 14 := by kernel_rfl
theorem b_tbl : Tryz.prog.bytesOf 29 = 64 := by kernel_rfl
theorem b_vl : Tryz.prog.bytesOf 58 = 32 := by kernel_rfl
theorem b_cl : Tryz.prog.bytesOf 43 = 32 := by kernel_rfl
theorem lst14 {α : Type} (l : List α) (h : l.length = 14) : ∃ c0 c1 c2 c3 c4 c5 c6 c7 c8 c9 c10 c11 c12 c13, l = [c0, c1, c2, c3, c4, c5, c6, c7, c8, c9, c10, c11, c12, c13] := by
  rcases l with _ | ⟨c0, _ | ⟨c1, _ | ⟨c2, _ | ⟨c3, _ | ⟨c4, _ | ⟨c5, _ | ⟨c6, _ | ⟨c7, _ | ⟨c8, _ | ⟨c9, _ | ⟨c10, _ | ⟨c11, _ | ⟨c12, _ | ⟨c13, _ | ⟨c14, l⟩⟩⟩⟩⟩⟩⟩⟩⟩⟩⟩⟩⟩⟩⟩ <;> simp at h
  exact ⟨c0, c1, c2, c3, c4, c5, c6, c7, c8, c9, c10, c11, c12, c13, rfl⟩
theorem lst10 {α : Type} (l : List α) (h : l.length = 10) : ∃ c0 c1 c2 c3 c4 c5 c6 c7 c8 c9, l = [c0, c1, c2, c3, c4, c5, c6, c7, c8, c9] := by
  rcases l with _ | ⟨c0, _ | ⟨c1, _ | ⟨c2, _ | ⟨c3, _ | ⟨c4, _ | ⟨c5, _ | ⟨c6, _ | ⟨c7, _ | ⟨c8, _ | ⟨c9, _ | ⟨c10, l⟩⟩⟩⟩⟩⟩⟩⟩⟩⟩⟩ <;> simp at h
  exact ⟨c0, c1, c2, c3, c4, c5, c6, c7, c8, c9, rfl⟩
section
variable {H : Type} {enc : TypeId × Value → H} {W : World} {fuel : Nat} {x : DataW H × List MemPlace} {cs : List Value}
theorem slice_at {t e : TypeId} {c : Value} (hu : Tryz.prog.underlying t = some (.slice e)) (h : DataW.trod enc Tryz.prog W 0 (fun _ => true) true fuel t [c] = some x) : ∃ ao len cap, c = .slice ao len cap := by
  rcases open_slice hu h with ⟨h1, _⟩ | ⟨a, len', cap', m, n, D, Pl, h1, _⟩
  · simp at h1; exact ⟨_, _, _, h1⟩
  · simp at h1; exact ⟨_, _, _, h1⟩
theorem all_mem {P : Program} {e : TypeId} : ∀ {l : List (DataW H)} {d : DataW H}, d ∈ l → ∀ n ∈ d.weights P e, n ∈ DataW.weightsAll P e l
  | [], _, h, _, _ => by cases h
  | a :: l, d, h, n, hn => by
    simp only [DataW.weightsAll, List.mem_append]
    rcases List.mem_cons.1 h with rfl | h
    · exact Or.inl hn
    · exact Or.inr (all_mem h n hn)
theorem tbls_in {ao : Option Addr} {len cap : Nat} (h : DataW.trod enc Tryz.prog W 0 (fun _ => true) true fuel 35 [.slice ao len cap] = some x) (hw : ∀ n ∈ x.1.weights Tryz.prog 35, n ≤ reachBytes) :
    ∃ l : List (Tbl × Value), len = l.length ∧ TL W (fun _ => False) ao l ∧ (ao = none → cap = 0) ∧ l.length * 64 ≤ 140737488351232 ∧ ∀ i (hi : i < l.length), l[i].1.cols.length * 32 ≤ 140737488351232 := by
  rcases open_slice Tryz.underlying35 h with ⟨h1, _⟩ | ⟨a, len', cap', m, n, D, Pl, h1, _, hl, hmx, hm, hx, hee⟩
  · simp at h1
    obtain ⟨rfl, rfl, rfl⟩ := h1
    exact ⟨[], rfl, ⟨fun h => absurd rfl h, fun h => absurd rfl h, fun i hi => by simp at hi⟩, fun _ => rfl, by simp, fun i hi => by simp at hi⟩
  · simp only [List.cons.injEq, Value.slice.injEq, and_true] at h1
    obtain ⟨rfl, rfl, rfl⟩ := h1
    have hm' : m = cap := by simpa using hm
    rw [c_tbl] at hee
    have hx1 : x.1 = .slice ((List.range len).map D) ((List.range (m - len)).map fun j => D (len + j)) := by rw [hx]
    rw [hx1] at hw
    simp only [DataW.weights, Tryz.underlying35] at hw
    have hbl : len * 64 ≤ 140737488351232 := by
      have h9 := hw _ (List.mem_cons_self ..)
      rw [b_tbl] at h9
      simp only [List.length_map, List.length_range] at h9
      unfold reachBytes at h9
      omega
    have hbx : ∀ i, i < len → ∀ n ∈ (D i).weights Tryz.prog 29, n ≤ reachBytes := fun i hi n hn => hw n (List.mem_cons_of_mem _ (List.mem_append_left _ (all_mem (List.mem_map.2 ⟨i, List.mem_range.2 hi, rfl⟩) n hn)))
    have key : ∀ i, i < len → ∃ p : Tbl × Value, (∀ j u, (tcs p)[j]? = some u → W.cell? ((a.add (i * 5)).add j) = some u) ∧ (∃ co cc, CK W (fun _ => False) p co cc) ∧ p.1.cols.length * 32 ≤ 140737488351232 := by
      intro i hi
      obtain ⟨cs', hc', ht⟩ := hee i (by omega)
      obtain ⟨_, hcl, hcc⟩ := World.cells?_some hc'
      obtain ⟨t, co, c, rfl, hsl, hno, hcap, _, _, hd⟩ := tbl_of ht
      refine ⟨(t, .slice co t.cols.length c), fun j u hu => ?_, ⟨co, c, rfl, hsl, hno, hcap, fun hne g o e => ⟨fun h => h, ?_⟩⟩, ?_⟩
      · have hj : j < 5 := by have := (List.getElem?_eq_some_iff.1 hu).1; simpa [tcs] using this
        have g0 := hcc j (by simpa using hj)
        rcases (by omega : j = 0 ∨ j = 1 ∨ j = 2 ∨ j = 3 ∨ j = 4) with rfl | rfl | rfl | rfl | rfl <;> (simp [tcs] at hu; subst hu; simpa using g0)
      · have hcn : ccl t.cols ≠ [] := fun e0 => by
          have h8 := congrArg List.length e0
          rw [ccl_len] at h8
          exact hne (List.eq_nil_of_length_eq_zero (by have h9 : t.cols.length * 3 = 0 := h8; show t.cols.length = 0; omega))
        obtain ⟨g', o', e', ha⟩ := hsl hcn
        rw [e'] at e; injection e with e; injection e with e _
        rw [← e]; exact ha.lt hcn
      · show t.cols.length * 32 ≤ _
        by_cases hne : t.cols = []
        · rw [hne]; simp
        · obtain ⟨d1, d2, d3, es, sp, d4, hd1, hd2⟩ := hd hne
          have hd1' : D i = .agg [d1, d2, d3, .slice es sp, d4] := hd1
          have h3 := hbx i hi
          rw [hd1'] at h3
          simp only [DataW.weights, Tryz.underlying29] at h3
          have h9 : (es.length + sp.length) * Tryz.prog.bytesOf 43 ≤ reachBytes := h3 _ (DataW.weights_mem_each (j := 3) rfl rfl _ (by simp only [DataW.weights, Tryz.underlying22]; exact List.mem_cons_self ..))
          rw [b_cl, hd2] at h9
          unfold reachBytes at h9
          omega
    have pick : ∃ l : List (Tbl × Value), l.length = len ∧ ∀ i (hi : i < l.length), (∀ j u, (tcs l[i])[j]? = some u → W.cell? ((a.add (i * 5)).add j) = some u) ∧ (∃ co cc, CK W (fun _ => False) l[i] co cc) ∧ l[i].1.cols.length * 32 ≤ 140737488351232 := by
      classical
      refine ⟨List.ofFn (fun i : Fin len => (key i.1 i.2).choose), by simp, fun i hi => ?_⟩
      have hi' : i < len := by simpa using hi
      rw [List.getElem_ofFn]
      exact (key i hi').choose_spec
    obtain ⟨l, rfl, hls⟩ := pick
    obtain ⟨b, off, spot⟩ := a
    have hsp : l ≠ [] → spot = none := fun hne => by
      have h0 := (hls 0 (List.length_pos_iff.2 hne)).1 0 _ rfl
      simpa [Addr.add] using World.cell?_spot h0
    have hAt : l ≠ [] → At W b off (tcl l) := fun hne j u hu' => by
      have hs := hsp hne
      subst hs
      have hj : j < l.length * 5 := by rw [← tcl_len]; exact (List.getElem?_eq_some_iff.1 hu').1
      obtain ⟨q, r, rfl, hr⟩ : ∃ q r, j = q * 5 + r ∧ r < 5 := ⟨j / 5, j % 5, by omega, by omega⟩
      have hq : q < l.length := by omega
      rw [tcl_get l q r hq hr] at hu'
      have h1 := (hls q hq).1 r u hu'
      simp only [add_plain] at h1
      rw [← Nat.add_assoc]; exact h1
    have hpos : ∀ hc : tcl l ≠ [], l ≠ [] := fun hc e => hc (by rw [e]; rfl)
    exact ⟨l, rfl, ⟨fun hc => ⟨b, off, by rw [hsp (hpos hc)], hAt (hpos hc)⟩, fun _ _ _ _ h => h, fun i hi => (hls i hi).2.1⟩, fun h => (by cases h), hbl, fun i hi => (hls i hi).2.2⟩
theorem rec_of (h : DataW.trod enc Tryz.prog W 0 (fun _ => true) true fuel 37 cs = some x) (hw : ∀ n ∈ x.1.weights Tryz.prog 37, n ≤ reachBytes) : ∃ (r : Rc) (s : Sk), cs = (boxS r s).toList ∧ RW W (fun _ => False) r s ∧ NB s ∧ SZ r ∧ RI r := by
  obtain ⟨xs, n', _, hx, hcl, hxl, hf⟩ := DataW.trod_struct Tryz.underlying37 h
  rw [c_rec] at hcl
  have hxs : xs.length = 10 := hxl
  obtain ⟨c0, c1, c2, c3, c4, c5, c6, c7, c8, c9, c10, c11, c12, c13, rfl⟩ := lst14 cs hcl
  obtain ⟨y0, y1, y2, y3, y4, y5, y6, y7, y8, y9, rfl⟩ := lst10 xs hxs
  have f0 : DataW.trod enc Tryz.prog W 0 (fun _ => true) true n' 3 [c0] = some y0 := by have := hf 0 _ rfl; simpa [c_int, c_str, c_rw, c_tbl, c_tbs] using this
  have f1 : DataW.trod enc Tryz.prog W 0 (fun _ => true) true n' 3 [c1] = some y1 := by have := hf 1 _ rfl; simpa [c_int, c_str, c_rw, c_tbl, c_tbs] using this
  have f2 : DataW.trod enc Tryz.prog W 0 (fun _ => true) true n' 3 [c2] = some y2 := by have := hf 2 _ rfl; simpa [c_int, c_str, c_rw, c_tbl, c_tbs] using this
  have f3 : DataW.trod enc Tryz.prog W 0 (fun _ => true) true n' 3 [c3] = some y3 := by have := hf 3 _ rfl; simpa [c_int, c_str, c_rw, c_tbl, c_tbs] using this
  have f4 : DataW.trod enc Tryz.prog W 0 (fun _ => true) true n' 24 [c4] = some y4 := by have := hf 4 _ rfl; simpa [c_int, c_str, c_rw, c_tbl, c_tbs] using this
  have f5 : DataW.trod enc Tryz.prog W 0 (fun _ => true) true n' 24 [c5] = some y5 := by have := hf 5 _ rfl; simpa [c_int, c_str, c_rw, c_tbl, c_tbs] using this
  have f6 : DataW.trod enc Tryz.prog W 0 (fun _ => true) true n' 9 [c6] = some y6 := by have := hf 6 _ rfl; simpa [c_int, c_str, c_rw, c_tbl, c_tbs] using this
  have f7 : DataW.trod enc Tryz.prog W 0 (fun _ => true) true n' 3 [c7] = some y7 := by have := hf 7 _ rfl; simpa [c_int, c_str, c_rw, c_tbl, c_tbs] using this
  have f8 : DataW.trod enc Tryz.prog W 0 (fun _ => true) true n' 29 [c8, c9, c10, c11, c12] = some y8 := by have := hf 8 _ rfl; simpa [c_int, c_str, c_rw, c_tbl, c_tbs] using this
  have f9 : DataW.trod enc Tryz.prog W 0 (fun _ => true) true n' 35 [c13] = some y9 := by have := hf 9 _ rfl; simpa [c_int, c_str, c_rw, c_tbl, c_tbs] using this
  have hx1 : x.1 = .agg [y0.1, y1.1, y2.1, y3.1, y4.1, y5.1, y6.1, y7.1, y8.1, y9.1] := by
    have := congrArg Prod.fst hx
    simpa using this
  rw [hx1] at hw
  simp only [DataW.weights, Tryz.underlying37] at hw
  have w4 : ∀ n ∈ y4.1.weights Tryz.prog 24, n ≤ reachBytes := fun n hn => hw n (DataW.weights_mem_each (j := 4) rfl rfl n hn)
  have w5 : ∀ n ∈ y5.1.weights Tryz.prog 24, n ≤ reachBytes := fun n hn => hw n (DataW.weights_mem_each (j := 5) rfl rfl n hn)
  have w6 : ∀ n ∈ y6.1.weights Tryz.prog 9, n ≤ reachBytes := fun n hn => hw n (DataW.weights_mem_each (j := 6) rfl rfl n hn)
  have w8 : ∀ n ∈ y8.1.weights Tryz.prog 29, n ≤ reachBytes := fun n hn => hw n (DataW.weights_mem_each (j := 8) rfl rfl n hn)
  have w9 : ∀ n ∈ y9.1.weights Tryz.prog 35, n ≤ reachBytes := fun n hn => hw n (DataW.weights_mem_each (j := 9) rfl rfl n hn)
  obtain ⟨k, e0, _, i0⟩ := DataW.trod_int Tryz.underlying3 f0
  obtain ⟨xi, e1, _, i1⟩ := DataW.trod_int Tryz.underlying3 f1
  obtain ⟨pa, e2, _, i2⟩ := DataW.trod_int Tryz.underlying3 f2
  obtain ⟨tb, e3, _, i3⟩ := DataW.trod_int Tryz.underlying3 f3
  obtain ⟨nm, e6, e6', _⟩ := DataW.trod_string Tryz.underlying9 f6
  obtain ⟨og, e7, _, i7⟩ := DataW.trod_int Tryz.underlying3 f7
  obtain ⟨a4, l4, q4, rfl⟩ := slice_at Tryz.underlying24 f4
  obtain ⟨a5, l5, q5, rfl⟩ := slice_at Tryz.underlying24 f5
  obtain ⟨os, oo, oc, eo, hor, hon, hoi, hod⟩ := arg_row (enc := enc) (W := W) (v := .slice a4 l4 q4) (d := y4.1) (p := y4.2) ⟨_, _, _, rfl⟩ ⟨n', f4⟩
  obtain ⟨ns, no, nc, en, hnr, hnn, hni, hnd⟩ := arg_row (enc := enc) (W := W) (v := .slice a5 l5 q5) (d := y5.1) (p := y5.2) ⟨_, _, _, rfl⟩ ⟨n', f5⟩
  simp only [Value.slice.injEq] at eo en
  obtain ⟨rfl, rfl, rfl⟩ := eo
  obtain ⟨rfl, rfl, rfl⟩ := en
  obtain ⟨T, co, cc, eT, hT, hTn, hTc, hTm, _, hTd⟩ := tbl_of f8
  obtain ⟨lo, ll, lc, rfl⟩ := slice_at Tryz.underlying35 f9
  obtain ⟨l, rfl, hL, hLn, hLb, hLc⟩ := tbls_in f9 w9
  simp at e0 e1 e2 e3 e6 e7
  simp only [List.cons.injEq, and_true] at eT
  obtain ⟨t0, t1, t2, t3, t4⟩ := eT
  subst e0 e1 e2 e3 e6 e7 t0 t1 t2 t3 t4
  have so : os.length * 32 ≤ 140737488351232 := by
    by_cases hne : os = []
    · rw [hne]; simp
    · obtain ⟨es, sp, h1, h2⟩ := hod hne
      rw [h1] at w4
      have h9 : (es.length + sp.length) * Tryz.prog.bytesOf 58 ≤ reachBytes := w4 _ (by simp only [DataW.weights, Tryz.underlying24]; exact List.mem_cons_self ..)
      rw [b_vl, h2] at h9
      unfold reachBytes at h9
      omega
  have sn : ns.length * 32 ≤ 140737488351232 := by
    by_cases hne : ns = []
    · rw [hne]; simp
    · obtain ⟨es, sp, h1, h2⟩ := hnd hne
      rw [h1] at w5
      have h9 : (es.length + sp.length) * Tryz.prog.bytesOf 58 ≤ reachBytes := w5 _ (by simp only [DataW.weights, Tryz.underlying24]; exact List.mem_cons_self ..)
      rw [b_vl, h2] at h9
      unfold reachBytes at h9
      omega
  have sc : T.cols.length * 32 ≤ 140737488351232 := by
    by_cases hne : T.cols = []
    · rw [hne]; simp
    · obtain ⟨d1, d2, d3, es, sp, d4, h1, h2⟩ := hTd hne
      rw [h1] at w8
      simp only [DataW.weights, Tryz.underlying29] at w8
      have h9 : (es.length + sp.length) * Tryz.prog.bytesOf 43 ≤ reachBytes := w8 _ (DataW.weights_mem_each (j := 3) rfl rfl _ (by simp only [DataW.weights, Tryz.underlying22]; exact List.mem_cons_self ..))
      rw [b_cl, h2] at h9
      unfold reachBytes at h9
      omega
  have snm : nm.size ≤ 140737488351232 := by
    rw [e6'] at w6
    have h9 := w6 nm.data.toList.length (by simp [DataW.weights])
    have h7 : nm.data.toList.length = nm.size := Array.length_toList
    unfold reachBytes at h9
    omega
  refine ⟨⟨k, xi, pa, tb, os, ns, nm, og, T, l.map Prod.fst⟩, ⟨a4, _, a5, _, co, cc, l, lo, lc⟩, rfl, ⟨sl_row hor, sl_row hnr, ⟨rfl, hT, hTn, hTc, fun hne g o e => ⟨fun h => h, ?_⟩⟩, hL, rfl, fun _ _ _ _ h => h, fun _ _ _ _ h => h, fun v hv => (hoi v hv).1, fun v hv => (hni v hv).1, ?_, ?_, ?_, ?_, fun i hi => ?_⟩, ⟨fun e => (hon e).2, fun e => (hnn e).2, hLn⟩, ⟨so, sn, sc, ?_, fun t ht => ?_⟩, ⟨wf_i64 i1, wf_i64 i2, wf_i64 i3, snm⟩⟩
  · have hcn : ccl T.cols ≠ [] := fun e0 => by
      have h8 := congrArg List.length e0
      rw [ccl_len] at h8
      exact hne (List.eq_nil_of_length_eq_zero (by have h9 : T.cols.length * 3 = 0 := h8; show T.cols.length = 0; omega))
    obtain ⟨g', o', e', ha⟩ := hT hcn
    have e9 : some (⟨g', o', none⟩ : Addr) = some ⟨g, o, none⟩ := e'.symm.trans e
    injection e9 with e9; injection e9 with e9 _
    rw [← e9]; exact ha.lt hcn
  · show os.length ≤ _; omega
  · show ns.length ≤ _; omega
  · show T.cols.length ≤ _; omega
  · show l.length ≤ _; omega
  · have := hLc i hi; show l[i].1.cols.length ≤ _; omega
  · show (l.map Prod.fst).length * 64 ≤ _; rw [List.length_map]; exact hLb
  · obtain ⟨p, hp, rfl⟩ := List.mem_map.1 ht
    obtain ⟨i, hi, rfl⟩ := List.getElem_of_mem hp
    exact hLc i hi
end
theorem recenc_lifted (os : Os) (started : os.Started) (H : Type) (enc : TypeId × Value → H) :
    ReturnsInHanded {} Tryz.checked os 4 .any (fun w args => (Rows.recordEncodesSpec.pre enc Tryz.prog Tryz.f4 [] false w args ∧ laidMetH Tryz.prog laid6 w) ∧ sizedMet enc Tryz.prog Tryz.f4 (OpenSpec.ofChange Rows.recordEncodesSpec) false w args)
      (Rows.recordEncodesSpec.post enc Tryz.prog Tryz.f4 false true false false) := by
  refine returnsInHanded_of_change_and (C := Tryz.checked) (X := fun w _ => laidMetH Tryz.prog laid6 w) (fun _ _ _ hh h => h.of_heap hh) tr_own started (by kernel_rfl) Tryz.func4
    (ChangeSpec.witness_shaped (enc := enc) (C := Tryz.checked) (os := os) (X := fun w _ => laidMetH Tryz.prog laid6 w) false (World.doorLaid Tryz.prog 400 os) #[.agg zeroR] 8 rfl (World.shaped_of_RefB (by kernel_rfl) (by kernel_rfl)) (by kernel_rfl) (by kernel_rfl) (by kernel_rfl) (door_met6 os _)) ?_
  intro W base args ds gs before hval0 hW _ hsz hL _
  have hval : ∀ (j : Nat) t v, Tryz.f4.params[j]? = some t → args[j]? = some v → Value.okWide Tryz.prog W .any base t v := hval0
  have hW' := hW
  obtain ⟨p, q, hA0, hV0, rfl, hfz, hnd⟩ := hW
  have hA : DataW.TrodAll enc Tryz.prog W 0 (fun _ => true) true Tryz.f4.params.toList args.toList ds p := hA0
  have hV : DataW.TrodVars enc Tryz.prog W (fun _ => true) [] gs q := hV0
  rw [Tryz.params4] at hA hval
  obtain ⟨v0, d0, p0, rfl, rfl, rfl, h0⟩ : ∃ v0 d0 p0, args = #[v0] ∧ ds = [d0] ∧ p = p0 ∧ DataW.Trod enc Tryz.prog W 0 (fun _ => true) true 37 v0 d0 p0 := by
    obtain ⟨v0, vs0, d0, ds0, p0, q0, hargs, rfl, rfl, h0, r0⟩ := trodAll_cons hA
    obtain ⟨rfl, rfl, rfl⟩ := trodAll_nil r0
    exact ⟨v0, d0, p0, by cases args; simp_all, rfl, by simp, h0⟩
  obtain ⟨cs, rfl⟩ := okWide_agg Tryz.underlying37 (hval 0 37 v0 rfl rfl)
  have h0k := h0
  obtain ⟨fuel, hf⟩ := h0
  have hwt : ∀ n ∈ d0.weights Tryz.prog 37, n ≤ reachBytes := fun n hn => of_decide_eq_true (List.all_eq_true.1 hsz n (DataW.weights_mem_each (j := 0) (t := 37) (by rw [Tryz.params4]; rfl) rfl n hn))
  obtain ⟨r, s, ecs, hRW, hNB, hSZ, hRI⟩ := rec_of hf hwt
  have ecs' : cs = boxS r s := Array.toList_inj.1 ecs
  subst ecs'
  obtain ⟨hg, hvb, hp, hwd⟩ := of_laid6 hL
  obtain ⟨rfl, rfl⟩ : gs = [] ∧ q = [] := by
    cases gs with
    | nil => exact ⟨rfl, hV⟩
    | cons g r => exact absurd hV (by intro h; cases h)
  have hlt : ∀ x ∈ p, x.block < W.heap.size := fun x hx => hW'.lt x (by simpa using hx)
  have hG : ∀ W', Tch (fun _ => False) W W' → HE W' ∧ HVB W' ∧ HP W' ∧ HWd W' := fun W' t => ⟨hg.tch t (fun h => h), hvb.no t, hp.no t, hwd.no t⟩
  have e1 : Rows.recordEncodesSpec.fn H ([d0] ++ []) = { results := [.lit (.bool true)], args := [d0] } := by simp [Rows.recordEncodesSpec]
  refine (recenc_law r s W (fun W' t => known_any W' (hG W' t).1 (hG W' t).2.1 (hG W' t).2.2.1 (hG W' t).2.2.2) hG hRW hNB hSZ hRI).mono fun e W' ⟨he, ht⟩ => ?_
  subst he
  have hB : Below W.heap.size W W' := ht.below (Nat.le_refl _) (fun _ _ h => h)
  refine ⟨_, rfl, _, _, _, [], p, [], hW', ?_, ?_, ?_, hB.frame _, fun h => by cases h⟩
  · rw [e1]; exact trodAll_mk1 (shut_bool Tryz.underlying4 true)
  · rw [e1]; exact trodAll_mk1 (Below.trod tr_laidOut (by kernel_rfl) (of_decide_eq_true (by kernel_rfl)) h0k hB (fun x hx => hlt x hx))
  · rw [e1]; rfl
theorem recenc_holds : Rows.RecordEncodesSaid :=
  OpenClaim.holds_of_wide 4 Tryz.f4 rfl rfl rfl rfl rfl rfl rfl ⟨rfl, rfl, rfl, rfl, rfl⟩ rfl rfl rfl rfl rfl (by kernel_rfl) Tryz.func4 (by kernel_rfl)
    (of_decide_eq_true (by kernel_rfl)) (by unfold Func.isWrapper; rw [if_neg (of_decide_eq_false (by kernel_rfl))]; exact ⟨rfl, rfl⟩)
    (fun os started H enc _ => recenc_lifted os started H enc)
theorem recenc_card : Rows.RecordEncodesCardSaid :=
  Claim7.holds_tied_plain_at .later [] [.data, .data, .data, .handle, .data, .data] true Rows.recordEncodesCard.stood.harness true
    recenc_holds (fun _ h => by cases h) (by kernel_rfl) (fun _ h => by cases h) recordEncodes_row_tie rfl ⟨rfl, rfl⟩ (by kernel_rfl) rfl
    (fun f fn hf hfn => by
      obtain rfl : f = 4 := Option.some.inj ((show Tryz.prog.funcNamed "confluence/confluencelaw6.RecordEncodes" = some 4 by kernel_rfl).symm.trans hf) |>.symm
      obtain rfl : fn = Tryz.f4 := (Option.some.inj (Tryz.func4.symm.trans hfn)).symm
      exact ⟨by kernel_rfl, fun j t ht => by
        rw [Tryz.params4] at ht
        have h3 : t = 37 := by
          rcases j with _ | j
          · simpa using ht.symm
          · simp at ht
        subst h3
        exact (show Tryz.prog.wantsStandIn 37 = false by kernel_rfl)
        ⟩)
    (by kernel_rfl)
#print axioms recenc_card
end Go.Proofs.YtjiblajnfnmjnaaGreatDoor.C
namespace Go.Proofs.YtjiblajnfnmjnaaGreatDoor
theorem recordEncodes_card : Rows.RecordEncodesCardSaid := C.recenc_card
end Go.Proofs.YtjiblajnfnmjnaaGreatDoor
