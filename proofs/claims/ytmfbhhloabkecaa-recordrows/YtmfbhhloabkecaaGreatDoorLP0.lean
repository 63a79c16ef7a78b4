import Derived.Test.YtmfbhhloabkecaaGreatDoorKP3
import Derived.Test.YtmfbhhloabkecaaGreatDoorRVd
import Derived.Test.YtmfbhhloabkecaaGreatDoorVRowArg
import Derived.Test.YtmfbhhloabkecaaGreatDoorCArg
import Derived.Lib.LaidTab
import Derived.Stop.LaidErr
import Derived.Test.YtmfbhhloabkecaaGreatDoorRW5
import Derived.Test.YtmfbhhloabkecaaGreatDoorRV8
set_option maxHeartbeats 8000000
set_option maxRecDepth 100000
namespace Go.Proofs.YtmfbhhloabkecaaGreatDoor.C
open Go.RowKit Go Go.Sort
def kRow : List Val := [⟨1, 7, ⟨#[]⟩⟩, ⟨2, 0, ⟨#[97]⟩⟩]
def kR : Rc := { rc0 3 with x := 1, t := 2, n := kRow }
def kB : ByteArray := ⟨#[3, 1, 2, 6, 2, 1, 14, 2, 1, 97]⟩
def kF (v : Val) : ByteArray := if v.k = 1 then itoB v.n else ⟨#[39, 97, 39]⟩
theorem kR_bytes : (⟨(recL kR).toArray⟩ : ByteArray) = kB := by kernel_rfl
theorem kR_right : rightC 3 kR := ⟨by unfold rtN; decide, by unfold rtN; decide, by decide, by kernel_rfl⟩
theorem kR_cut : cutC 3 kR = kR := rfl
theorem kRow_i64 : ∀ v ∈ kRow, v.i64 := fun v hv => by
  rcases List.mem_cons.1 hv with rfl | hv
  · unfold Val.i64; decide
  · rcases List.mem_cons.1 hv with rfl | hv
    · unfold Val.i64; decide
    · simp at hv
theorem kR_print : insB ++ spB ++ joinS [itoB kR.x, tableB, itoB kR.t, brk (kR.n.map kF)] = ⟨#[105, 110, 115, 101, 114, 116, 32, 49, 32, 116, 97, 98, 108, 101, 32, 50, 32, 40, 55, 44, 32, 39, 97, 39, 41]⟩ := by kernel_rfl
theorem kR_join : (joinC (kR.n.map kF)).length ≤ 1000000 := by
  have e : (joinC (kR.n.map kF)).length = 6 := by kernel_rfl
  omega
theorem kR_joinS : (joinS [itoB kR.x, tableB, itoB kR.t, brk (kR.n.map kF)]).size ≤ 10000000 := by
  have e : (joinS [itoB kR.x, tableB, itoB kR.t, brk (kR.n.map kF)]).size = 18 := by kernel_rfl
  omega
theorem k_qtd : qtd ⟨#[97]⟩ = [39, 97, 39] := by kernel_rfl
theorem k_quoted (W : World) : Calls Tryz.prog 156 #[.string ⟨#[97]⟩] W fun x w' => x = .returned (.string ⟨#[39, 97, 39]⟩) ∧ Tch (fun _ => False) W w' := by
  have := quoted_plain ⟨#[97]⟩ W (by decide) (fun k hk => by
    obtain rfl : k = 0 := by have : k < 1 := hk; omega
    rw [show (⟨#[97]⟩ : ByteArray)[0]'hk = 97 from rfl]; decide)
  rw [k_qtd] at this
  exact this
theorem k_prints (w : World) (hw : HWd w) (hv : HP w) : ∀ v ∈ kR.n, ∀ W, Tch (fun _ => False) w W → Calls Tryz.prog 115 #[vA v.k v.n v.s] W fun x w' => x = .returned (.string (kF v)) ∧ Tch (fun _ => False) W w' := fun v h W t => by
  rcases List.mem_cons.1 h with rfl | h
  · exact print_int6 7 (by omega) W (hw.tch t (fun h => h)) (hv.no t)
  · rcases List.mem_cons.1 h with rfl | h
    · exact print_text ⟨#[97]⟩ W (hw.tch t (fun h => h)) (by decide) _ k_quoted
    · simp at h
def kS (A : Nat) : Sk := { sk0 with no := some ⟨A, 0, none⟩, nc := 2 }
theorem kR_rw {W : World} {A : Nat} (h : W.heap[A]? = some (.cells (vcl kRow).toArray 58 (0, 0))) : RW W (fun _ => False) kR (kS A) := by
  have n0 : ∀ v ∈ ([] : List Val), v.i64 := fun v hv => by simp at hv
  have z0 : (0 : Nat) ≤ 9223372036854775807 := Nat.zero_le _
  exact ⟨sl_nil W _ rfl, fun _ => ⟨A, 0, rfl, blk_at h⟩, ck_nil W _, tl_nil W _, rfl, fun h => absurd rfl h, fun _ _ _ _ h => h, n0, kRow_i64, z0, (show (2 : Nat) ≤ 9223372036854775807 by omega), z0, z0, fun i hi => absurd hi (Nat.not_lt_zero i)⟩
theorem known_any (w : World) (hg : HE w) (hvb : HVB w) (hv : HP w) (hw : HWd w) : Calls Tryz.prog 6 #[] w fun x w' => x = .returned (.bool true) ∧ Tch (fun _ => False) w w' := by
  obtain ⟨w0, hw0⟩ : ∃ w0, w0 = (w.alloc (.cells #[.int .i64 1, .int .i64 7, .string ⟨#[]⟩, .int .i64 2, .int .i64 0, .string ⟨#[97]⟩] 58)).alloc (.cells #[.int .i64 3, .int .i64 1, .int .i64 0, .int .i64 2, .slice none 0 0, .slice (some ⟨w.heap.size, 0, none⟩) 2 2, .string ⟨#[]⟩, .int .i64 0, .int .i64 0, .int .i64 0, .string ⟨#[]⟩, .slice none 0 0, .int .i64 0, .slice none 0 0] 37) := ⟨_, rfl⟩
  have t0 : Tch (fun _ => False) w w0 := by rw [hw0]; exact (Tch.alloc _ _ _).allocR _
  have bA : w0.heap[w.heap.size]? = some (.cells (vcl kRow).toArray 58 (0, 0)) := by
    rw [hw0]; exact ((Tch.alloc (fun _ => False) _ _).block _ (by simp) (fun h => h)).trans (heap_new w _)
  have bB : w0.heap[w.heap.size + 1]? = some (.cells #[.int .i64 3, .int .i64 1, .int .i64 0, .int .i64 2, .slice none 0 0, .slice (some ⟨w.heap.size, 0, none⟩) 2 2, .string ⟨#[]⟩, .int .i64 0, .int .i64 0, .int .i64 0, .string ⟨#[]⟩, .slice none 0 0, .int .i64 0, .slice none 0 0] 37 (0, 0)) := by
    rw [hw0, ← World.size_alloc]; exact heap_new _ _
  have HK : Hid (∀ W, Tch (fun _ => False) w0 W → W.heap[w.heap.size + 1]? = some (.cells #[.int .i64 3, .int .i64 1, .int .i64 0, .int .i64 2, .slice none 0 0, .slice (some ⟨w.heap.size, 0, none⟩) 2 2, .string ⟨#[]⟩, .int .i64 0, .int .i64 0, .int .i64 0, .string ⟨#[]⟩, .slice none 0 0, .int .i64 0, .slice none 0 0] 37 (0, 0))) := fun W t => (t.block _ (blk_lt bB) (fun h => h)).trans bB
  have HR : Hid (∀ W, Tch (fun _ => False) w0 W → RW W (fun _ => False) kR (kS w.heap.size) ∧ HE W) := fun W t => ⟨kR_rw ((t.block _ (blk_lt bA) (fun h => h)).trans bA), (hg.tch t0 (fun h => h)).tch t (fun h => h)⟩
  have q1 := encode_ok kR (kS w.heap.size) (fun _ => False) w0 (HR.out w0 (Tch.refl _ _)).2 (HR.out w0 (Tch.refl _ _)).1 kR_right kR_cut
  rw [kR_bytes] at q1
  have q1 : Calls Tryz.prog 13 #[rA 3 1 0 2 (.slice none 0 0) (.slice (some ⟨w.heap.size, 0, none⟩) 2 2) ⟨#[]⟩ 0 0 0 ⟨#[]⟩ (.slice none 0 0) 0 (.slice none 0 0)] w0 fun x w' => x = .returned (.tuple #[.string ⟨#[3, 1, 2, 6, 2, 1, 14, 2, 1, 97]⟩, .int .i64 0]) ∧ Tch (fun _ => False) w0 w' := q1
  have HD : Hid (∀ W, Tch (fun _ => False) w0 W → Calls Tryz.prog 14 #[.string ⟨#[3, 1, 2, 6, 2, 1, 14, 2, 1, 97]⟩] W fun x w' => ∃ a4 c4 a b a11 c11 a13 n13 c13, x = .returned (.tuple #[rA 3 1 0 2 (.slice a4 0 c4) (.slice a 2 b) ⟨#[]⟩ 0 0 0 ⟨#[]⟩ (.slice a11 0 c11) 0 (.slice a13 n13 c13), .int .i64 0]) ∧ Tch (fun _ => False) W w') := fun W t => by
    have q := decode_ok kR kB W kR_bytes.symm (by decide) (HR.out W t).2 kR_right kR_cut (fun v hv => by simp [kR, rc0] at hv) kRow_i64
    refine q.mono ?_
    rintro x w' ⟨s, rfl, -, tw⟩
    exact ⟨s.oo, s.oc, s.no, s.nc, s.co, s.cc, s.to, s.P.length, s.tc, rfl, tw⟩
  have HPR : Hid (∀ W, Tch (fun _ => False) w0 W → Calls Tryz.prog 19 #[rA 3 1 0 2 (.slice none 0 0) (.slice (some ⟨w.heap.size, 0, none⟩) 2 2) ⟨#[]⟩ 0 0 0 ⟨#[]⟩ (.slice none 0 0) 0 (.slice none 0 0)] W fun x w' => x = .returned (.string ⟨#[105, 110, 115, 101, 114, 116, 32, 49, 32, 116, 97, 98, 108, 101, 32, 50, 32, 40, 55, 44, 32, 39, 97, 39, 41]⟩) ∧ Tch (fun _ => False) W w') := fun W t => by
    have q := print_3 kR (kS w.heap.size) (fun _ => False) W kF (HR.out W t).2 (hvb.no (t0.trans' t)) (hv.no (t0.trans' t)) (HR.out W t).1 rfl kR_right kR_cut (k_prints W (hw.tch (t0.trans' t) (fun h => h)) (hv.no (t0.trans' t))) (by decide) kR_join kR_joinS
    rw [kR_print] at q
    exact q
  rw [hw0] at q1
  have HT0 : Hid (Tch (fun _ => False) w w0) := t0
  have HW0 : Hid (w0 = _) := hw0
  clear hg hvb hv hw bA bB t0 hw0 HR
  go_enter Tryz.func6, Tryz.ntmps6
  go_wp2_with fail
  refine q1.mono ?_
  rintro x w1 ⟨rfl, t1⟩
  rw [← HW0.out] at t1
  clear q1
  go_wp2_with fail
  refine (HD.out w1 t1).mono ?_
  rintro x w2 ⟨a4, c4, a, b, a11, c11, a13, n13, c13, rfl, t2⟩
  have T2 := t1.trans' t2
  have b2 := HK.out w2 T2
  obtain ⟨w3, hw3⟩ : ∃ w3, w3 = w2.alloc (.cells #[.int .i64 3, .int .i64 1, .int .i64 0, .int .i64 2, .slice a4 0 c4, .slice a 2 b, .string ⟨#[]⟩, .int .i64 0, .int .i64 0, .int .i64 0, .string ⟨#[]⟩, .slice a11 0 c11, .int .i64 0, .slice a13 n13 c13] 37) := ⟨_, rfl⟩
  have T3 : Tch (fun _ => False) w0 w3 := by rw [hw3]; exact T2.allocR _
  have q4 := HPR.out w3 T3
  have b3 := HK.out w3 T3
  have hlt := blk_lt b2
  have HT3 : Hid (Tch (fun _ => False) w w3) := HT0.out.trans' T3
  rw [hw3] at q4 b3
  have HW3 : Hid (w3 = _) := hw3
  have y0 : (w2.alloc (.cells #[.int .i64 3, .int .i64 1, .int .i64 0, .int .i64 2, .slice a4 0 c4, .slice a 2 b, .string ⟨#[]⟩, .int .i64 0, .int .i64 0, .int .i64 0, .string ⟨#[]⟩, .slice a11 0 c11, .int .i64 0, .slice a13 n13 c13] 37)).cell? ⟨w.heap.size + 1, 0, none⟩ = some (.int .i64 3) := blk_cell b3 0
  have y1 : (w2.alloc (.cells #[.int .i64 3, .int .i64 1, .int .i64 0, .int .i64 2, .slice a4 0 c4, .slice a 2 b, .string ⟨#[]⟩, .int .i64 0, .int .i64 0, .int .i64 0, .string ⟨#[]⟩, .slice a11 0 c11, .int .i64 0, .slice a13 n13 c13] 37)).cell? ⟨w.heap.size + 1, 1, none⟩ = some (.int .i64 1) := blk_cell b3 1
  have y2 : (w2.alloc (.cells #[.int .i64 3, .int .i64 1, .int .i64 0, .int .i64 2, .slice a4 0 c4, .slice a 2 b, .string ⟨#[]⟩, .int .i64 0, .int .i64 0, .int .i64 0, .string ⟨#[]⟩, .slice a11 0 c11, .int .i64 0, .slice a13 n13 c13] 37)).cell? ⟨w.heap.size + 1, 2, none⟩ = some (.int .i64 0) := blk_cell b3 2
  have y3 : (w2.alloc (.cells #[.int .i64 3, .int .i64 1, .int .i64 0, .int .i64 2, .slice a4 0 c4, .slice a 2 b, .string ⟨#[]⟩, .int .i64 0, .int .i64 0, .int .i64 0, .string ⟨#[]⟩, .slice a11 0 c11, .int .i64 0, .slice a13 n13 c13] 37)).cell? ⟨w.heap.size + 1, 3, none⟩ = some (.int .i64 2) := blk_cell b3 3
  have y4 : (w2.alloc (.cells #[.int .i64 3, .int .i64 1, .int .i64 0, .int .i64 2, .slice a4 0 c4, .slice a 2 b, .string ⟨#[]⟩, .int .i64 0, .int .i64 0, .int .i64 0, .string ⟨#[]⟩, .slice a11 0 c11, .int .i64 0, .slice a13 n13 c13] 37)).cell? ⟨w.heap.size + 1, 4, none⟩ = some (.slice none 0 0) := blk_cell b3 4
  have y5 : (w2.alloc (.cells #[.int .i64 3, .int .i64 1, .int .i64 0, .int .i64 2, .slice a4 0 c4, .slice a 2 b, .string ⟨#[]⟩, .int .i64 0, .int .i64 0, .int .i64 0, .string ⟨#[]⟩, .slice a11 0 c11, .int .i64 0, .slice a13 n13 c13] 37)).cell? ⟨w.heap.size + 1, 5, none⟩ = some (.slice (some ⟨w.heap.size, 0, none⟩) 2 2) := blk_cell b3 5
  have y6 : (w2.alloc (.cells #[.int .i64 3, .int .i64 1, .int .i64 0, .int .i64 2, .slice a4 0 c4, .slice a 2 b, .string ⟨#[]⟩, .int .i64 0, .int .i64 0, .int .i64 0, .string ⟨#[]⟩, .slice a11 0 c11, .int .i64 0, .slice a13 n13 c13] 37)).cell? ⟨w.heap.size + 1, 6, none⟩ = some (.string ⟨#[]⟩) := blk_cell b3 6
  have y7 : (w2.alloc (.cells #[.int .i64 3, .int .i64 1, .int .i64 0, .int .i64 2, .slice a4 0 c4, .slice a 2 b, .string ⟨#[]⟩, .int .i64 0, .int .i64 0, .int .i64 0, .string ⟨#[]⟩, .slice a11 0 c11, .int .i64 0, .slice a13 n13 c13] 37)).cell? ⟨w.heap.size + 1, 7, none⟩ = some (.int .i64 0) := blk_cell b3 7
  have y8 : (w2.alloc (.cells #[.int .i64 3, .int .i64 1, .int .i64 0, .int .i64 2, .slice a4 0 c4, .slice a 2 b, .string ⟨#[]⟩, .int .i64 0, .int .i64 0, .int .i64 0, .string ⟨#[]⟩, .slice a11 0 c11, .int .i64 0, .slice a13 n13 c13] 37)).cell? ⟨w.heap.size + 1, 8, none⟩ = some (.int .i64 0) := blk_cell b3 8
  have y9 : (w2.alloc (.cells #[.int .i64 3, .int .i64 1, .int .i64 0, .int .i64 2, .slice a4 0 c4, .slice a 2 b, .string ⟨#[]⟩, .int .i64 0, .int .i64 0, .int .i64 0, .string ⟨#[]⟩, .slice a11 0 c11, .int .i64 0, .slice a13 n13 c13] 37)).cell? ⟨w.heap.size + 1, 9, none⟩ = some (.int .i64 0) := blk_cell b3 9
  have y10 : (w2.alloc (.cells #[.int .i64 3, .int .i64 1, .int .i64 0, .int .i64 2, .slice a4 0 c4, .slice a 2 b, .string ⟨#[]⟩, .int .i64 0, .int .i64 0, .int .i64 0, .string ⟨#[]⟩, .slice a11 0 c11, .int .i64 0, .slice a13 n13 c13] 37)).cell? ⟨w.heap.size + 1, 10, none⟩ = some (.string ⟨#[]⟩) := blk_cell b3 10
  have y11 : (w2.alloc (.cells #[.int .i64 3, .int .i64 1, .int .i64 0, .int .i64 2, .slice a4 0 c4, .slice a 2 b, .string ⟨#[]⟩, .int .i64 0, .int .i64 0, .int .i64 0, .string ⟨#[]⟩, .slice a11 0 c11, .int .i64 0, .slice a13 n13 c13] 37)).cell? ⟨w.heap.size + 1, 11, none⟩ = some (.slice none 0 0) := blk_cell b3 11
  have y12 : (w2.alloc (.cells #[.int .i64 3, .int .i64 1, .int .i64 0, .int .i64 2, .slice a4 0 c4, .slice a 2 b, .string ⟨#[]⟩, .int .i64 0, .int .i64 0, .int .i64 0, .string ⟨#[]⟩, .slice a11 0 c11, .int .i64 0, .slice a13 n13 c13] 37)).cell? ⟨w.heap.size + 1, 12, none⟩ = some (.int .i64 0) := blk_cell b3 12
  have y13 : (w2.alloc (.cells #[.int .i64 3, .int .i64 1, .int .i64 0, .int .i64 2, .slice a4 0 c4, .slice a 2 b, .string ⟨#[]⟩, .int .i64 0, .int .i64 0, .int .i64 0, .string ⟨#[]⟩, .slice a11 0 c11, .int .i64 0, .slice a13 n13 c13] 37)).cell? ⟨w.heap.size + 1, 13, none⟩ = some (.slice none 0 0) := blk_cell b3 13
  clear hw3 T2 T3 t1 t2 b2 b3 HPR HD HK
  go_wp2_with fail
  refine q4.mono ?_
  rintro x w4 ⟨rfl, t4⟩
  rw [← HW3.out] at t4
  go_wp2_with fail
  go_ret
  exact ⟨rfl, HT3.out.trans' t4⟩
end Go.Proofs.YtmfbhhloabkecaaGreatDoor.C
namespace Go.Proofs.YtmfbhhloabkecaaGreatDoor.C
open Go.ChangeShapes Go.WideShapes Go.RowKit Go.Deep
set_option maxRecDepth 100000
theorem tr_gP : Tryz.prog.globalNamed "internal/strconv.uint64pow10" = some 4 := by kernel_rfl
theorem tr_vb : Tryz.prog.globalNamed "confluence/record.verbs" = some 0 := by kernel_rfl
theorem tr_vbt : (Tryz.prog.globals[0]?).map (·.type) = some 93 := by kernel_rfl
abbrev laid6 : List (String × DataW Unit) := [("math/bits.deBruijn32tab", Rows.laid_math_bits_deBruijn32tab), ("math/bits.deBruijn64tab", Rows.laid_math_bits_deBruijn64tab), ("internal/strconv.uint64pow10", Rows.laid_internal_strconv_uint64pow10), ("errors.errorType", Rows.laid_errors_errorType), ("confluence/value.words", Rows.laid_confluence_value_words), ("confluence/record.verbs", Rows.laid_confluence_record_verbs)]
theorem cells_of_texts {H : Type} {enc : TypeId × Value → H} {P : Program} {w : World} {base : Nat} {sp : Nat → Bool} {held : Bool} {fuel : Nat} {t e : TypeId} {n : Nat} {cs : List Value} {zs : List (List UInt8)} {p : List MemPlace}
    (ht : P.underlying t = some (.array n e)) (he : P.underlying e = some .string) (hce : P.cellsOf e = 1) (hct : P.cellsOf t = n)
    (h : DataW.trod enc P w base sp held fuel t cs = some (.agg (zs.map fun z => .lit (.string z)), p)) : cs = zs.map fun z => Value.string ⟨z.toArray⟩ := by
  obtain ⟨xs, m, _, hx, hcl, hxl, hel⟩ := DataW.trod_array ht h
  rw [hct] at hcl
  rw [hce] at hel
  simp only [Prod.mk.injEq, DataW.agg.injEq] at hx
  have hzl : zs.length = n := by
    have := congrArg List.length hx.1
    simp at this
    omega
  refine List.ext_getElem (by simp; omega) fun i h1 h2 => ?_
  have hi : i < n := by omega
  have hk := hel i hi
  have hxi : i < xs.length := by omega
  rw [List.getElem?_eq_getElem hxi, Nat.mul_one] at hk
  have hd : (cs.drop i).take 1 = [cs[i]] := by
    rw [List.drop_eq_getElem_cons (by omega)]; rfl
  rw [hd] at hk
  obtain ⟨s, e1, e2, _⟩ := DataW.trod_string he hk
  have e3 : cs[i] = .string s := by simpa using e1
  have e4 : (zs.map fun z => (DataW.lit (.string z) : DataW H))[i]? = (xs.map (·.1))[i]? := by rw [hx.1]
  simp only [List.getElem?_map, List.getElem?_eq_getElem hxi, List.getElem?_eq_getElem (show i < zs.length by omega), Option.map_some, Option.some.injEq] at e4
  rw [e2] at e4
  have e5 : zs[i] = s.data.toList := by simpa using e4
  rw [e3, List.getElem_map, e5]
theorem vb_of {W : World} (h : laidMet Tryz.prog [("confluence/record.verbs", Rows.laid_confluence_record_verbs)] W) : HVB W := by
  obtain ⟨ps, ⟨g, t, cs, f, p, q, hg, ht, hv, hd, _⟩, _⟩ := h
  obtain rfl := Option.some.inj (tr_vb.symm.trans hg)
  obtain rfl := Option.some.inj (tr_vbt.symm.trans ht)
  have hcs := cells_of_texts (zs := [[], [98, 101, 103, 105, 110], [112, 97, 114, 116], [105, 110, 115, 101, 114, 116], [117, 112, 100, 97, 116, 101], [100, 101, 108, 101, 116, 101], [114, 101, 108, 101, 97, 115, 101], [98, 97, 99, 107], [99, 111, 109, 109, 105, 116], [97, 98, 111, 114, 116], [112, 114, 101, 112, 97, 114, 101], [99, 114, 101, 97, 116, 101], [100, 114, 111, 112], [119, 105, 100, 101, 110], [101, 109, 112, 116, 121], [99, 104, 101, 99, 107, 112, 111, 105, 110, 116]]) Tryz.underlying93 Tryz.underlying9 c_str (by kernel_rfl) hd
  intro j u hu
  rw [World.var?_cell tr_vb hv j, ← Array.getElem?_toList, hcs]
  exact hu
theorem wd_of {W : World} (h : laidMet Tryz.prog [("confluence/value.words", Rows.laid_confluence_value_words), ("confluence/record.verbs", Rows.laid_confluence_record_verbs)] W) : HWd W := by
  obtain ⟨ps, ⟨g, t, cs, f, p, q, hg, ht, hv, hd, _⟩, _⟩ := h
  obtain rfl := Option.some.inj (tr_ws.symm.trans hg)
  obtain rfl := Option.some.inj (tr_wt.symm.trans ht)
  obtain ⟨xs, m1, rfl, hx1, hlen, hn3, hel⟩ := DataW.trod_array Tryz.underlying224 hd
  obtain ⟨x0, x1, x2, rfl⟩ := list3 xs hn3
  simp only [Prod.mk.injEq] at hx1
  have k0 := hel 0 (by decide)
  have k1 := hel 1 (by decide)
  have k2 := hel 2 (by decide)
  simp only [c_word] at k0 k1 k2
  obtain ⟨t0, a0, b0, s0, e0, y0⟩ := word_of (show _ = some x0 from k0)
  obtain ⟨t1, a1, b1, s1, e1, y1⟩ := word_of (show _ = some x1 from k1)
  obtain ⟨t2, a2, b2, s2, e2, y2⟩ := word_of (show _ = some x2 from k2)
  have hx2 := hx1.1
  unfold Rows.laid_confluence_value_words at hx2
  simp only [List.map_cons, List.map_nil, y0, y1, y2, DataW.agg.injEq, List.cons.injEq, DataW.lit.injEq, Lit.string.injEq, Lit.int.injEq, true_and, and_true] at hx2
  obtain ⟨⟨q0, rfl, rfl, r0⟩, ⟨q1, rfl, rfl, r1⟩, q2, rfl, rfl, r2⟩ := hx2
  rw [bytes_of q0.symm, bytes_of r0.symm] at e0
  rw [bytes_of q1.symm, bytes_of r1.symm] at e1
  rw [bytes_of q2.symm, bytes_of r2.symm] at e2
  have hl : cs.toList.length = 12 := hlen
  have hcs : cs.toList = wordCells := by
    have h1 : cs.toList = cs.toList.take 4 ++ ((cs.toList.drop 4).take 4 ++ (cs.toList.drop 8).take 4) := by
      rw [List.take_of_length_le (l := cs.toList.drop 8) (by simp at hl ⊢; omega)]
      have h2 : cs.toList.drop 8 = (cs.toList.drop 4).drop 4 := by rw [List.drop_drop]
      rw [h2, List.take_append_drop, List.take_append_drop]
    rw [h1, show cs.toList.take 4 = _ from e0, show (cs.toList.drop 4).take 4 = _ from e1, show (cs.toList.drop 8).take 4 = _ from e2]
    rfl
  intro j u hu
  rw [World.var?_cell tr_ws hv j, ← Array.getElem?_toList, hcs]
  exact hu
theorem of_laid6 {W : World} (h : laidMetH Tryz.prog laid6 W) : HE W ∧ HVB W ∧ HP W ∧ HWd W := by
  have h' : laidMet Tryz.prog [("math/bits.deBruijn32tab", Rows.laid_math_bits_deBruijn32tab), ("math/bits.deBruijn64tab", Rows.laid_math_bits_deBruijn64tab), ("internal/strconv.uint64pow10", Rows.laid_internal_strconv_uint64pow10), ("confluence/value.words", Rows.laid_confluence_value_words), ("confluence/record.verbs", Rows.laid_confluence_record_verbs)] W ∧ handlesMet Tryz.prog [("errors.errorType", Rows.laid_errors_errorType)] W := h
  refine ⟨?_, vb_of (laidMet.tail (laidMet.tail (laidMet.tail (laidMet.tail h'.1)))), ?_, wd_of (laidMet.tail (laidMet.tail (laidMet.tail h'.1)))⟩
  · obtain ⟨name, u, ty, e1, e2, e3, e4, e5⟩ := h'.2 _ (List.mem_singleton.2 rfl)
    have en : name = [101, 114, 114, 111, 114] := (Option.some.inj e1).symm
    subst en
    obtain rfl := Option.some.inj (tr_rt.symm.trans e2)
    have hm : ty ∈ (List.range 281).filter fun t => Tryz.prog.rowNamed t [101, 114, 114, 111, 114] := List.mem_filter.2 ⟨List.mem_range.2 (by rw [← tr_size]; exact e3), e4⟩
    rw [tr_oneRow] at hm
    obtain rfl := List.mem_singleton.1 hm
    have hh : typeHandle Tryz.prog 117 = .pointer (some ⟨7, 117, none⟩) := by kernel_rfl
    rw [hh] at e5
    have := World.var?_cell tr_et e5 0
    unfold HE
    simpa using this
  · have h3 : laidMet Tryz.prog (("internal/strconv.uint64pow10", Lib.tabData .u64 Lib.pow10Tab) :: [("confluence/value.words", Rows.laid_confluence_value_words), ("confluence/record.verbs", Rows.laid_confluence_record_verbs)]) W := laidMet.tail (laidMet.tail h'.1)
    exact Lib.tabIs_of_head tr_gP (by kernel_rfl) Tryz.underlying232 Tryz.underlying172 (by kernel_rfl) (by kernel_rfl) h3
theorem door_met6 (os : Os) (args : Array Value) : laidMetH Tryz.prog laid6 ((World.doorLaid Tryz.prog 400 os).forCall (fun _ _ => 0) ⟨#[], args, []⟩).memory :=
  laidMetH_of_parts3 (fuel := 8) (laidMet_of_run' 8 (by kernel_rfl) (by kernel_rfl)) (by kernel_rfl) (by kernel_rfl)
theorem sl_row {W : World} {ao : Option Addr} {vs : List Val} (h : RowOf W ao vs) : SL W ao (vcl vs) := fun hv => by
  have hne : vs ≠ [] := by rintro rfl; exact hv rfl
  obtain ⟨g, o, e, ha⟩ := h hne
  refine ⟨g, o, e, fun j u hu' => ?_⟩
  have hj : j < vs.length * 3 := by rw [← vcl_len]; exact (List.getElem?_eq_some_iff.1 hu').1
  obtain ⟨q, r, rfl, hr⟩ : ∃ q r, j = q * 3 + r ∧ r < 3 := ⟨j / 3, j % 3, by omega, by omega⟩
  have hq : q < vs.length := by omega
  obtain ⟨h0', h1', h2'⟩ := ha q hq
  obtain ⟨g0, g1, g2⟩ := f3_get (fun v : Val => Value.int .i64 v.k) (fun v => .int .i64 v.n) (fun v => .string v.s) vs q hq
  unfold vcl at hu'
  rcases (by omega : r = 0 ∨ r = 1 ∨ r = 2) with rfl | rfl | rfl
  · rw [Nat.add_zero] at hu' ⊢; rw [g0] at hu'; rw [h0', hu']
  · rw [g1] at hu'; rw [← Nat.add_assoc, h1', hu']
  · rw [g2] at hu'; rw [← Nat.add_assoc, h2', hu']
section
variable {H : Type} {enc : TypeId × Value → H} {P : Program} {w : World} {base : Nat} {spare : Nat → Bool} {held : Bool}
theorem trodAll_five {t0 t1 t2 t3 t4 : TypeId} {args : Array Value} {ds : List (DataW H)} {ps : List MemPlace} (h : DataW.TrodAll enc P w base spare held [t0, t1, t2, t3, t4] args.toList ds ps) :
    ∃ v0 v1 v2 v3 v4 d0 d1 d2 d3 d4 p0 p1 p2 p3 p4, args = #[v0, v1, v2, v3, v4] ∧ ds = [d0, d1, d2, d3, d4] ∧ ps = p0 ++ (p1 ++ (p2 ++ (p3 ++ p4))) ∧ DataW.Trod enc P w base spare held t0 v0 d0 p0 ∧ DataW.Trod enc P w base spare held t1 v1 d1 p1 ∧ DataW.Trod enc P w base spare held t2 v2 d2 p2 ∧ DataW.Trod enc P w base spare held t3 v3 d3 p3 ∧ DataW.Trod enc P w base spare held t4 v4 d4 p4 := by
  obtain ⟨v0, vs0, d0, ds0, p0, q0, hargs, rfl, rfl, h0, r0⟩ := trodAll_cons h
  obtain ⟨v1, vs1, d1, ds1, p1, q1, rfl, rfl, rfl, h1, r1⟩ := trodAll_cons r0
  obtain ⟨v2, vs2, d2, ds2, p2, q2, rfl, rfl, rfl, h2, r2⟩ := trodAll_cons r1
  obtain ⟨v3, vs3, d3, ds3, p3, q3, rfl, rfl, rfl, h3, r3⟩ := trodAll_cons r2
  obtain ⟨v4, vs4, d4, ds4, p4, q4, rfl, rfl, rfl, h4, r4⟩ := trodAll_cons r3
  obtain ⟨rfl, rfl, rfl⟩ := trodAll_nil r4
  exact ⟨v0, v1, v2, v3, v4, d0, d1, d2, d3, d4, p0, p1, p2, p3, p4, by cases args; simp_all, rfl, by simp, h0, h1, h2, h3, h4⟩
theorem trodAll_mk5 {t0 t1 t2 t3 t4 : TypeId} {v0 v1 v2 v3 v4 : Value} {d0 d1 d2 d3 d4 : DataW H} {p0 p1 p2 p3 p4 : List MemPlace} (h0 : DataW.Trod enc P w base spare held t0 v0 d0 p0) (h1 : DataW.Trod enc P w base spare held t1 v1 d1 p1) (h2 : DataW.Trod enc P w base spare held t2 v2 d2 p2) (h3 : DataW.Trod enc P w base spare held t3 v3 d3 p3) (h4 : DataW.Trod enc P w base spare held t4 v4 d4 p4) :
    DataW.TrodAll enc P w base spare held [t0, t1, t2, t3, t4] [v0, v1, v2, v3, v4] [d0, d1, d2, d3, d4] (p0 ++ (p1 ++ (p2 ++ (p3 ++ p4)))) := ⟨p0, p1 ++ (p2 ++ (p3 ++ p4)), h0, trodAll_mk4 h1 h2 h3 h4, rfl⟩
end
end Go.Proofs.YtmfbhhloabkecaaGreatDoor.C
namespace Go.Proofs.YtmfbhhloabkecaaGreatDoor.C
open Go.RowKit Go
structure Good (r : Rc) : Prop where
  right : rightC (cls r.k) r
  cut : cutC (cls r.k) r = r
  oi : ∀ v ∈ r.o, v.i64
  ni : ∀ v ∈ r.n, v.i64
  tb : r.tb.cols.length ≤ 8
  tl : r.tbs.length ≤ 16
  ts : ∀ t ∈ r.tbs, t.cols.length ≤ 8
theorem rc_len {r : Rc} (h : Good r) : (recL r).length ≤ 20000 := by
  have hr := h.right
  unfold recL
  rw [List.length_cons]
  have b1 := fol_dg_len r.x.toNat
  have b2 := fol_dg_len r.p.toNat
  have b3 := fol_dg_len r.t.toNat
  have b4 := fol_dg_len r.org.toNat
  have b5 := rowL_len r.o
  have b6 := rowL_len r.n
  rcases cls_rng r.k with h0 | ⟨_, _, h1, h2⟩
  · rw [h0] at hr; exact hr.elim
  · obtain ⟨c, hcc⟩ : ∃ c, cls r.k = c := ⟨_, rfl⟩
    rw [hcc] at hr h1 h2 ⊢
    have hc0 : c = 1 ∨ c = 2 ∨ c = 3 ∨ c = 4 ∨ c = 5 ∨ c = 6 ∨ c = 7 ∨ c = 8 ∨ c = 9 ∨ c = 10 := by omega
    rcases hc0 with rfl | rfl | rfl | rfl | rfl | rfl | rfl | rfl | rfl | rfl
    · simp only [bodyL]; omega
    · simp only [bodyL, List.length_append]; omega
    · simp only [bodyL, List.length_append]; omega
    · simp only [bodyL, List.length_append]; omega
    · simp only [bodyL, List.length_append]; omega
    · have hs : r.nm.size ≤ 16 := by
        have hr : rtN r.x ∧ ((r.nm.size = 0 ∧ r.org = 0) ∨ (nmOk r.nm = true ∧ 1 ≤ r.org ∧ r.org ≤ 819208192)) := hr
        rcases hr.2 with h | h
        · omega
        · exact nm_size h.1
      have := textL_len hs
      simp only [bodyL, List.length_append]; omega
    · have hr : rtN r.x ∧ nmOk r.nm = true := hr
      have := textL_len (nm_size hr.2)
      simp only [bodyL, List.length_append]; omega
    · have hr : rtN r.x ∧ rightE r.tb = 0 := hr
      have := tabL_len (right_rt hr.2)
      simp only [bodyL, List.length_append]; omega
    · simp only [bodyL, List.length_append]; omega
    · have hr : (1 ≤ r.x ∧ r.x ≤ 2147483648) ∧ (1 ≤ r.t ∧ r.t ≤ 2147483648) ∧ LDp r.tbs r.t := hr
      have h3 := tabsL_len hr.2.2.rt
      have h4 := hr.2.2.len
      have h5 : (bytesL [(r.tbs.length : Int)]).length = 1 := rfl
      simp only [bodyL, List.length_append]; omega
theorem cre_right {nm : ByteArray} {cols : List Col} {key : Int} (h : creE [] 0 nm cols key = 0) : rightE (creT 0 nm cols key) = 0 := by
  unfold creE at h
  split at h
  · simp at h
  · split at h
    · simp at h
    · split at h
      · simp at h
      · exact h
def zC : Col := ⟨⟨#[122, 95, 122]⟩, 3, true⟩
theorem wid_right {t : Tbl} (ht : rightE t = 0) (hv : t.ver = 1) (h : widE t zC = 0) : rightE (widT t zC) = 0 := by
  have hc : colsE (t.cols ++ [zC]) = 0 := by
    unfold widE at h
    split at h
    · exact h
    · rename_i h1; exact Decidable.not_not.1 h1
  have hr := right_rt ht
  have hkey : keyOk t.cols t.key = true := by
    unfold rightE at ht
    split at ht
    · simp at ht
    · split at ht
      · simp at ht
      · split at ht
        · exact absurd ht (by assumption)
        · split at ht
          · simp at ht
          · rename_i h4; simpa using h4
  have hkey2 : keyOk (t.cols ++ [zC]) t.key = true := by
    have hk := hr.key
    unfold keyOk at hkey ⊢
    rw [List.getElem?_append_left (by omega)]
    exact hkey
  have n1 : numOk t.id = true := by
    unfold numOk
    have := hr.id
    simp only [Bool.and_eq_true, decide_eq_true_eq]; omega
  have n2 : numOk (t.ver + 1) = true := by rw [hv]; decide
  unfold rightE
  show (if numOk t.id = false ∨ numOk (t.ver + 1) = false then 1 else if nmOk t.nm = false then 50 else if colsE (t.cols ++ [zC]) ≠ 0 then colsE (t.cols ++ [zC]) else if keyOk (t.cols ++ [zC]) t.key = false then 56 else 0 : Int) = 0
  rw [n1, n2, hr.nm, hc, hkey2]
  simp
theorem good_shape (k x : Int) (t : Tbl) (hk : k = 11 ∨ k = 13) (hx : rtN x) (ht : rightE t = 0) : Good { rc0 k with x := x, tb := t } := by
  have n0 : ∀ v ∈ ([] : List Val), v.i64 := fun v hv => by simp at hv
  have hl := (right_rt ht).len.2
  rcases hk with rfl | rfl
  · exact ⟨⟨hx, ht⟩, rfl, n0, n0, hl, Nat.zero_le _, fun t ht => by simp [rc0] at ht⟩
  · exact ⟨⟨hx, ht⟩, rfl, n0, n0, hl, Nat.zero_le _, fun t ht => by simp [rc0] at ht⟩
theorem good_check (x : Int) (t : Tbl) (hx : 1 ≤ x ∧ x ≤ 2147483648) (ht : rightE t = 0) (hi : t.id = 1) : Good { rc0 15 with x := x, t := 2, tbs := [t] } := by
  have n0 : ∀ v ∈ ([] : List Val), v.i64 := fun v hv => by simp at hv
  refine ⟨⟨hx, (show (1 : Int) ≤ 2 ∧ (2 : Int) ≤ 2147483648 by omega), ?_⟩, rfl, n0, n0, Nat.zero_le _, (by show (1 : Nat) ≤ 16; omega), fun u hu => ?_⟩
  · refine ⟨by show (1 : Nat) ≤ 16; omega, fun i h => ?_, fun i h => ?_, fun i j h1 h2 h3 => ?_, fun i j h1 h2 h3 => ?_⟩
    · have : i < 1 := h
      obtain rfl : i = 0 := by omega
      exact ht
    · have : i < 1 := h
      obtain rfl : i = 0 := by omega
      show t.id < 2; omega
    · have : j < 1 := h2
      omega
    · have : j < 1 := h2
      omega
  · have hu : u ∈ [t] := hu
    rw [List.mem_singleton.1 hu]; exact (right_rt ht).len.2
theorem good_rows (x ti : Int) (al : List Val) (hx : rtN x) (h1 : rtN ti) (hl : rtRow al) (hi : ∀ v ∈ al, v.i64) : Good { rc0 3 with x := x, t := ti, n := al } ∧ Good { rc0 5 with x := x, t := ti, o := al } ∧ Good { rc0 4 with x := x, t := ti, o := al, n := al } := by
  have n0 : ∀ v ∈ ([] : List Val), v.i64 := fun v hv => by simp at hv
  have z0 : ∀ t ∈ ([] : List Tbl), t.cols.length ≤ 8 := fun t ht => by simp at ht
  exact ⟨⟨⟨hx, h1, hl⟩, rfl, n0, hi, Nat.zero_le _, Nat.zero_le _, z0⟩, ⟨⟨hx, h1, hl⟩, rfl, hi, n0, Nat.zero_le _, Nat.zero_le _, z0⟩, ⟨⟨hx, h1, hl, hl⟩, rfl, hi, hi, Nat.zero_le _, Nat.zero_le _, z0⟩⟩
theorem fit_row {t : Tbl} {vs al : List Val} (h : fitR t vs = (al, 0)) (hi : ∀ v ∈ vs, v.i64) : rtRow al ∧ (∀ v ∈ al, v.i64) ∧ al.length ≤ 8 := by
  have hE : rightE t = 0 := by
    unfold fitR at h
    split at h
    · rename_i h1; simp at h; exact absurd h.2 h1
    · rename_i h1; exact Decidable.not_not.1 h1
  have hlen := right_len hE
  have hvl : vs.length ≤ t.cols.length := by
    rcases Nat.lt_or_ge t.cols.length vs.length with h1 | h1
    · rw [fitR_many hE h1] at h; simp at h
    · exact h1
  have hF : fitsAll t.cols (fullR t vs) = true ∧ al = fullR t vs := by
    unfold fitR at h
    rw [if_neg (by simp [hE]), if_neg (by omega)] at h
    split at h
    · simp at h
    · rename_i h1
      simp at h1 h
      exact ⟨h1, h.symm⟩
  have hfl := fullR_len hvl
  have hall := (fitsAll_iff t.cols (fullR t vs) hfl.symm).1 hF.1
  rw [hF.2]
  have hw : ∀ v ∈ fullR t vs, wrg v = 0 := fun v hv => by
    obtain ⟨i, hi', rfl⟩ := List.getElem_of_mem hv
    have := hall i (by omega) hi'
    unfold fitE at this
    split at this
    · rename_i h1; exact absurd this h1
    · rename_i h1; exact Decidable.not_not.1 h1
  refine ⟨⟨fun e => ?_, ?_⟩, fun v hv => ?_, by omega⟩
  · rw [e] at hfl; simp at hfl; omega
  · unfold encR
    rw [if_neg (by omega), encGo_all _ _ hw]
  · unfold fullR at hv
    rcases List.mem_append.1 hv with h1 | h1
    · exact hi v h1
    · rw [(List.mem_replicate.1 h1).2]; unfold Val.i64 nullV; simp
theorem fit_nil {t : Tbl} {vs : List Val} (h : (fitR t vs).2 ≠ 0) : (fitR t vs).1 = [] := by
  unfold fitR at h ⊢
  split
  · rfl
  · rename_i h1
    rw [if_neg h1] at h
    split
    · rfl
    · rename_i h2
      rw [if_neg h2] at h
      split
      · rfl
      · rename_i h3
        rw [if_neg h3] at h
        exact absurd rfl h
end Go.Proofs.YtmfbhhloabkecaaGreatDoor.C
