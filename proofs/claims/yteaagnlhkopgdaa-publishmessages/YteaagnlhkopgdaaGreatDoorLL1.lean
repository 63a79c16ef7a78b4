import Derived.Test.YteaagnlhkopgdaaGreatDoorRVd2
import Derived.Test.YteaagnlhkopgdaaGreatDoorRVd5
import Derived.Test.YteaagnlhkopgdaaGreatDoorRVd8
import Derived.Test.YteaagnlhkopgdaaGreatDoorCCopy
import Derived.Test.YteaagnlhkopgdaaGreatDoorCRow
import Derived.BigQuiet
set_option maxHeartbeats 8000000
set_option maxRecDepth 100000
namespace Go.Proofs.YteaagnlhkopgdaaGreatDoor.C
open Go.RowKit Go Go.Sort
theorem decode_0 (S : ByteArray) (w : World) (hsz : S.size ≤ 281474976710656) (hk : cls ((byteR S 0 0).1 : Int) = 0) : Calls Tryz.prog 13 #[.string S] w fun x w' => DxOut S w x w' := by
  have HNS : Hid (∀ r, ¬ Says S r) := no_says hk
  obtain ⟨B, hB⟩ : ∃ B, B = byteR S 0 0 := ⟨_, rfl⟩
  have HBY : Hid (byteR S 0 0 = B) := hB.symm
  rw [← hB] at hk
  obtain ⟨k, hkk⟩ : ∃ k : Int, k = (B.1 : Int) := ⟨_, rfl⟩
  rw [← hkk] at hk
  have HEK : Hid ((B.1 : Int) = k) := hkk.symm
  obtain ⟨w0, hw0⟩ : ∃ w0, w0 = w.alloc (.cells #[.int .i64 0, .int .i64 0, .int .i64 0, .int .i64 0, .int .i64 0, .int .i64 0, .int .i64 0, .string ⟨#[]⟩, .slice none 0 0, .int .i64 0, .slice none 0 0, .slice none 0 0] 28) := ⟨_, rfl⟩
  have t0 : Tch (fun _ => False) w w0 := by rw [hw0]; exact Tch.alloc _ _ _
  have b0 : w0.heap[w.heap.size]? = some (.cells #[.int .i64 0, .int .i64 0, .int .i64 0, .int .i64 0, .int .i64 0, .int .i64 0, .int .i64 0, .string ⟨#[]⟩, .slice none 0 0, .int .i64 0, .slice none 0 0, .slice none 0 0] 28 (0, 0)) := by rw [hw0]; exact heap_new w _
  have q1 := newReader_any S w0
  rw [hw0] at q1
  have HW0 : Hid (w0 = w.alloc (.cells #[.int .i64 0, .int .i64 0, .int .i64 0, .int .i64 0, .int .i64 0, .int .i64 0, .int .i64 0, .string ⟨#[]⟩, .slice none 0 0, .int .i64 0, .slice none 0 0, .slice none 0 0] 28)) := hw0
  have HB : Hid (∀ W, Tch (fun i => w.heap.size < i) w0 W → W.heap[w.heap.size]? = some (.cells #[.int .i64 0, .int .i64 0, .int .i64 0, .int .i64 0, .int .i64 0, .int .i64 0, .int .i64 0, .string ⟨#[]⟩, .slice none 0 0, .int .i64 0, .slice none 0 0, .slice none 0 0] 28 (0, 0)) ∧ Tch (fun _ => False) w W) := fun W t =>
    ⟨(t.block _ (blk_lt b0) (by omega)).trans b0, (t0.mono (fun _ _ h => h.elim)).trans t (fun i hi h => by omega)⟩
  have hz0 : w0.heap.size = w.heap.size + 1 := by rw [hw0]; simp
  have HBO : Hid (∀ W, Calls Tryz.prog 14 #[rV (rc0 k) sk0] W fun x w' => x = .returned .nilIface ∧ Tch (fun _ => False) W w') := fun W => by
    have q := messageOf_any (rc0 k) sk0 W
    have e : cls (rc0 k).k = 0 := hk
    rw [e] at q
    exact q
  clear hk hkk hw0 t0 b0 hB
  go_enter Tryz.func13, Tryz.ntmps13
  go_wp2_with fail
  refine q1.mono ?_
  rintro x w1 ⟨rfl, h1, t1, zr⟩
  rw [← HW0.out, hz0] at h1
  rw [← HW0.out] at t1 zr
  clear q1
  have T1 : Tch (fun i => w.heap.size < i) w0 w1 := t1.mono (fun _ _ h => h.elim)
  have q2 := rbyte_any (w.heap.size + 1) S 0 0 w1 h1 hsz
  rw [HBY.out] at q2
  simp only [HEK.out] at q2
  go_wp2_with fail
  refine q2.mono ?_
  rintro x w2 ⟨rfl, h2, t2⟩
  clear q2
  have T2 : Tch (fun i => w.heap.size < i) w0 w2 := T1.trans' (t2.mono (fun i _ h => by omega))
  go_wp2_with fail
  refine (HBO.out w2).mono ?_
  rintro x w3 ⟨rfl, t3⟩
  have T3 : Tch (fun i => w.heap.size < i) w0 w3 := T2.trans' (t3.mono (fun _ _ h => h.elim))
  obtain ⟨n3, U3⟩ := HB.out w3 T3
  have HF : Hid (∀ W, Tch (fun i => i = w.heap.size) w3 W → Tch (fun _ => False) w W) := fun W t => U3.trans t (fun i hi h => by omega)
  have z0 := blk_cell n3 0
  have z1 := blk_cell n3 1
  have z2 := blk_cell n3 2
  have z3 := blk_cell n3 3
  have z4 := blk_cell n3 4
  have z5 := blk_cell n3 5
  have z6 := blk_cell n3 6
  have z7 := blk_cell n3 7
  have z8 := blk_cell n3 8
  have z9 := blk_cell n3 9
  have z10 := blk_cell n3 10
  have z11 := blk_cell n3 11
  simp only [List.getElem?_toArray, List.getElem?_cons_succ, List.getElem?_cons_zero] at z0 z1 z2 z3 z4 z5 z6 z7 z8 z9 z10 z11
  have f0 := blk_frozen n3 0
  have f1 := blk_frozen n3 1
  have f2 := blk_frozen n3 2
  have f3 := blk_frozen n3 3
  have f4 := blk_frozen n3 4
  have f5 := blk_frozen n3 5
  have f6 := blk_frozen n3 6
  have f7 := blk_frozen n3 7
  have f8 := blk_frozen n3 8
  have f9 := blk_frozen n3 9
  have f10 := blk_frozen n3 10
  have f11 := blk_frozen n3 11
  clear h1 h2 t1 t2 t3 T1 T2 T3 zr n3 U3 HB HW0 HBO HBY HEK hz0
  go_wp2_with fail
  have hrs : Tryz.f13.results = #[.cell 2 28, .tmp 3] := by kernel_rfl
  refine bodyPost_ret (v := .tuple #[rV (rc0 0) sk0, .int .i64 181]) (by simp only [results, hrs]; go_simp; (repeat' apply And.intro) <;> rfl) rfl ?_
  exact Or.inr ⟨HNS.out, rfl, HF.out _ (show Tch (fun i => i = w.heap.size) w3 _ from (((((((((((Tch.setCell (fun i => i = w.heap.size) w3 ⟨w.heap.size, 0, none⟩ _ rfl).setCellR ⟨w.heap.size, 1, none⟩ _ rfl).setCellR ⟨w.heap.size, 2, none⟩ _ rfl).setCellR ⟨w.heap.size, 3, none⟩ _ rfl).setCellR ⟨w.heap.size, 4, none⟩ _ rfl).setCellR ⟨w.heap.size, 5, none⟩ _ rfl).setCellR ⟨w.heap.size, 6, none⟩ _ rfl).setCellR ⟨w.heap.size, 7, none⟩ _ rfl).setCellR ⟨w.heap.size, 8, none⟩ _ rfl).setCellR ⟨w.heap.size, 9, none⟩ _ rfl).setCellR ⟨w.heap.size, 10, none⟩ _ rfl).setCellR ⟨w.heap.size, 11, none⟩ _ rfl)⟩
theorem decode_x (S : ByteArray) (w : World) (hsz : S.size ≤ 281474976710656) (hg : HE w) : Calls Tryz.prog 13 #[.string S] w fun x w' => DxOut S w x w' := by
  obtain ⟨c, hcc⟩ : ∃ c, cls ((byteR S 0 0).1 : Int) = c := ⟨_, rfl⟩
  have hr := cls_rng ((byteR S 0 0).1 : Int)
  rw [hcc] at hr
  have hc0 : c = 0 ∨ c = 1 ∨ c = 2 ∨ c = 3 ∨ c = 4 ∨ c = 5 ∨ c = 6 ∨ c = 7 ∨ c = 8 := by omega
  rcases hc0 with rfl | rfl | rfl | rfl | rfl | rfl | rfl | rfl | rfl
  · exact decode_0 S w hsz hcc
  · exact decode_1 S w hsz hg hcc
  · exact decode_2 S w hsz hg hcc
  · exact decode_3 S w hsz hg hcc
  · exact decode_4 S w hsz hg hcc
  · exact decode_5 S w hsz hg hcc
  · exact decode_6 S w hsz hg hcc
  · exact decode_7 S w hsz hg hcc
  · exact decode_8 S w hsz hg hcc
end Go.Proofs.YteaagnlhkopgdaaGreatDoor.C
namespace Go.Proofs.YteaagnlhkopgdaaGreatDoor.C
open Go.RowKit Go Go.Sort
def km1 : Rc := { rc0 1 with x := 2, l := 8200 }
def km2 : Rc := { rc0 6 with t := 3 }
theorem km1_rr : RR km1 := ⟨⟨by unfold rtN; decide, by unfold rtP; decide⟩, rfl⟩
theorem km2_rr : RR km2 := ⟨by show rtN 3; unfold rtN; decide, rfl⟩
theorem km3_rr : ¬ RR (rc0 1) := fun h => by
  have := h.1.1
  unfold rtN at this
  exact absurd this.1 (by decide)
theorem km1_enc : encS km1 = ⟨#[1, 2, 136, 64]⟩ ∧ encI km1 = 0 := by
  unfold encS encI
  rw [if_pos km1_rr, if_pos km1_rr]
  exact ⟨by kernel_rfl, rfl⟩
theorem km2_enc : encS km2 = ⟨#[6, 3]⟩ ∧ encI km2 = 0 := by
  unfold encS encI
  rw [if_pos km2_rr, if_pos km2_rr]
  exact ⟨by kernel_rfl, rfl⟩
theorem km3_enc : encS (rc0 1) = ⟨#[]⟩ ∧ encI (rc0 1) = 181 := by
  unfold encS encI
  rw [if_neg km3_rr, if_neg km3_rr]
  exact ⟨rfl, rfl⟩
theorem km2_says : Says ⟨#[6, 3]⟩ km2 := enc_says km2_enc.2 km2_enc.1 (fun _ hv => absurd hv List.not_mem_nil) (fun _ hv => absurd hv List.not_mem_nil)
theorem rw_nil (W : World) (r : Rc) (h1 : r.o = []) (h2 : r.n = []) (h3 : r.tb = tb0) : RW W (fun _ => False) r sk0 := by
  refine ⟨sl_nil _ _ (by rw [h1]; rfl), sl_nil _ _ (by rw [h2]; rfl), ?_, fun _ _ _ _ h => h, fun _ _ _ _ h => h, fun v hv => ?_, fun v hv => ?_, by rw [h1]; exact Nat.zero_le _, by rw [h2]; exact Nat.zero_le _, by rw [h3]; exact Nat.zero_le _⟩
  · rw [h3]; exact ck_nil _ _
  · rw [h1] at hv; exact absurd hv List.not_mem_nil
  · rw [h2] at hv; exact absurd hv List.not_mem_nil
theorem known_any (w : World) (hg : HE w) : Calls Tryz.prog 4 #[] w fun x w' => x = .returned (.bool true) ∧ Tch (fun _ => False) w w' := by
  have HG : Hid (∀ W, Tch (fun _ => False) w W → HE W) := fun W t => hg.tch t (fun h => h)
  have HQ1 : Hid (∀ W, Tch (fun _ => False) w W → Calls Tryz.prog 7 #[rA 1 2 8200 0 0 0 0 ⟨#[]⟩ (.slice none 0 0) 0 (.slice none 0 0) (.slice none 0 0)] W fun x w' => x = .returned (.tuple #[.string ⟨#[1, 2, 136, 64]⟩, .int .i64 0]) ∧ Tch (fun _ => False) W w') := fun W t => by
    have q := encode_all km1 sk0 (fun _ => False) W (HG.out W t) (rw_nil W km1 rfl rfl rfl)
    rw [km1_enc.1, km1_enc.2] at q
    exact q
  have HQ2 : Hid (∀ W, Tch (fun _ => False) w W → Calls Tryz.prog 7 #[rA 6 0 0 0 3 0 0 ⟨#[]⟩ (.slice none 0 0) 0 (.slice none 0 0) (.slice none 0 0)] W fun x w' => x = .returned (.tuple #[.string ⟨#[6, 3]⟩, .int .i64 0]) ∧ Tch (fun _ => False) W w') := fun W t => by
    have q := encode_all km2 sk0 (fun _ => False) W (HG.out W t) (rw_nil W km2 rfl rfl rfl)
    rw [km2_enc.1, km2_enc.2] at q
    exact q
  have HQ3 : Hid (∀ W, Tch (fun _ => False) w W → Calls Tryz.prog 7 #[rA 1 0 0 0 0 0 0 ⟨#[]⟩ (.slice none 0 0) 0 (.slice none 0 0) (.slice none 0 0)] W fun x w' => x = .returned (.tuple #[.string ⟨#[]⟩, .int .i64 181]) ∧ Tch (fun _ => False) W w') := fun W t => by
    have q := encode_all (rc0 1) sk0 (fun _ => False) W (HG.out W t) (rw_nil W (rc0 1) rfl rfl rfl)
    rw [km3_enc.1, km3_enc.2] at q
    exact q
  have HQ4 : Hid (∀ W, Tch (fun _ => False) w W → Calls Tryz.prog 13 #[.string ⟨#[6, 3]⟩] W fun x w' => (∃ a c d e f g, x = .returned (.tuple #[rA 6 0 0 0 3 0 0 ⟨#[]⟩ (.slice a 0 c) 0 (.slice d 0 e) (.slice f 0 g), .int .i64 0])) ∧ Tch (fun _ => False) W w') := fun W t => by
    refine (decode_x ⟨#[6, 3]⟩ W (by decide) (HG.out W t)).mono ?_
    rintro x w' (⟨r, s, h1, rfl, _, h2⟩ | ⟨h1, _⟩)
    · obtain rfl := h1.uniq km2_says
      exact ⟨⟨s.co, s.cc, s.oo, s.oc, s.no, s.nc, rfl⟩, h2⟩
    · exact absurd km2_says (h1 _)
  clear hg HG
  go_enter Tryz.func4, Tryz.ntmps4
  go_wp2_with fail
  refine (HQ1.out _ (Tch.refl _ _)).mono ?_
  rintro x w1 ⟨rfl, t1⟩
  go_wp2_with fail
  refine (HQ2.out _ t1).mono ?_
  rintro x w2 ⟨rfl, t2⟩
  have T2 := t1.trans' t2
  go_wp2_with fail
  refine (HQ3.out _ T2).mono ?_
  rintro x w3 ⟨rfl, t3⟩
  have T3 := T2.trans' t3
  go_wp2_with fail
  refine (HQ4.out _ T3).mono ?_
  rintro x w4 ⟨⟨a, c, d, e, f, g, rfl⟩, t4⟩
  have T4 := T3.trans' t4
  go_wp2_with fail
  go_ret
  exact ⟨rfl, T4.allocR _⟩
end Go.Proofs.YteaagnlhkopgdaaGreatDoor.C
namespace Go.Proofs.YteaagnlhkopgdaaGreatDoor.C
open Go.RowKit Go Go.Sort
set_option maxRecDepth 100000
def bhd : ByteArray := ⟨#[98, 101, 104, 105, 110, 100]⟩
def farS : ByteArray := ⟨#[102, 97, 114]⟩
def lentR (l : List Val) : List Value := vcl l ++ [.int .i64 0, .int .i64 0, .string bhd, .int .i64 0, .int .i64 0, .string farS]
def lentK (l : List Col) : List Value := ccl l ++ [.string bhd, .int .i64 0, .bool false, .string farS, .int .i64 0, .bool false]
theorem set_tail (xs ys : List Value) (n k : Nat) (hn : xs.length = n) (v : Value) : (xs ++ ys).toArray.setIfInBounds (n + k) v = (xs ++ ys.set k v).toArray := by
  rw [List.setIfInBounds_toArray, List.set_append_right _ _ (by omega), hn, Nat.add_sub_cancel_left]
theorem lentRow_any (l : List Val) (ao : Option Addr) (c : Nat) (w : World) (hl : l.length ≤ 4398046511000) (hS : SL w ao (vcl l)) (hno : ao = none → c = 0) :
    Calls Tryz.prog 5 #[.slice ao l.length c] w fun r w' => r = .returned (.slice (some ⟨w.heap.size, 0, none⟩) (l.length + 2) (l.length + 2)) ∧ w'.heap[w.heap.size]? = some (.cells (lentR l).toArray 52 (0, 0)) ∧ Tch (fun _ => False) w w' := by
  obtain ⟨n, hn⟩ : ∃ n, n = l.length := ⟨_, rfl⟩
  obtain ⟨g, hg⟩ : ∃ g, g = w.heap.size := ⟨_, rfl⟩
  obtain ⟨w0, hw0⟩ : ∃ w0, w0 = w.alloc (.cells (rep (n + 2) [.int .i64 0, .int .i64 0, .string ⟨#[]⟩]).toArray 52) := ⟨_, rfl⟩
  have t0 : Tch (fun _ => False) w w0 := by rw [hw0]; exact Tch.alloc _ _ _
  have hb0 : w0.heap[g]? = some (.cells (rep (n + 2) [.int .i64 0, .int .i64 0, .string ⟨#[]⟩]).toArray 52 (0, 0)) := by rw [hw0, hg]; exact alloc_new _ _
  have hxl : (vcl l).length = n * 3 := by rw [vcl_len, hn]
  have hrl : (rep (n + 2) ([.int .i64 0, .int .i64 0, .string ⟨#[]⟩] : List Value)).length = (n + 2) * 3 := by rw [rep_len]; rfl
  obtain ⟨w1, hr1, hb1, t1⟩ := copy_in (P := Tryz.prog) w0 26 52 52 g (n + 2) (n + 2) ao n c _ (vcl l) Tryz.underlying26 info_val3 hb0 hxl (by omega) (by rw [List.size_toArray, hrl]; omega) (vcl_one _) (hS.no t0) hno
  have hmk : (Instr.makeSlice 26 (.int .i64 ((n : Int) + 2)) (.int .i64 ((n : Int) + 2))).run Tryz.prog w = .ok (.slice (some ⟨g, 0, none⟩) (n + 2) (n + 2)) w0 := by
    have := make_row (n + 2) w (by omega)
    rw [show (((n + 2 : Nat)) : Int) = (n : Int) + 2 by omega] at this
    rw [this, hg, hw0]
  have hb1' : w1.heap[g]? = some (.cells (vcl l ++ ([.int .i64 0, .int .i64 0, .string ⟨#[]⟩, .int .i64 0, .int .i64 0, .string ⟨#[]⟩] : List Value)).toArray 52 (0, 0)) := by
    rw [hb1]
    congr 4
    have := rep_drop n 2 ([.int .i64 0, .int .i64 0, .string ⟨#[]⟩] : List Value)
    exact this
  have e5 : (n + 1) * 3 + 2 = n * 3 + 5 := by omega
  have hb2 := blk_set (i := n * 3 + 2) hb1' (.string bhd)
  rw [set_tail _ _ _ _ hxl] at hb2
  have hb3 := blk_set (i := n * 3 + 5) hb2 (.string farS)
  rw [set_tail _ _ _ _ hxl] at hb3
  have c1 : w1.cell? ⟨g, n * 3 + 2, none⟩ = some (.string ⟨#[]⟩) := by
    rw [blk_cell hb1', List.getElem?_toArray, List.getElem?_append_right (by omega), hxl, Nat.add_sub_cancel_left]; rfl
  have c2 : (w1.setCell ⟨g, n * 3 + 2, none⟩ (.string bhd)).cell? ⟨g, n * 3 + 5, none⟩ = some (.string ⟨#[]⟩) := by
    rw [blk_cell hb2, List.getElem?_toArray, List.getElem?_append_right (by omega), hxl, Nat.add_sub_cancel_left]; rfl
  have g1 := blk_frozen hb1' (n * 3 + 2)
  have g2 := blk_frozen hb2 (n * 3 + 5)
  have hwr : IntKind.i64.wrap ((n : Int) + 2) = (n : Int) + 2 := wrap_of (by omega) (by omega)
  have hwr1 : IntKind.i64.wrap ((n : Int) + 1) = (n : Int) + 1 := wrap_of (by omega) (by omega)
  have t2 : Tch (fun i => i = g) w ((w1.setCell ⟨g, n * 3 + 2, none⟩ (.string bhd)).setCell ⟨g, n * 3 + 5, none⟩ (.string farS)) := (((t0.mono (fun _ _ e => e.elim)).trans' t1).setCellR _ _ rfl).setCellR _ _ rfl
  have t3 : Tch (fun _ => False) w ((w1.setCell ⟨g, n * 3 + 2, none⟩ (.string bhd)).setCell ⟨g, n * 3 + 5, none⟩ (.string farS)) := t2.mono (fun i hi e => by have e' : i = g := e; omega)
  rw [← e5] at c2 g2 t3 hb3
  have HB : Hid _ := hb3
  have HT : Hid _ := t3
  rw [← hn, ← hg]
  unfold bhd farS at *
  clear hw0 t0 hb0 hxl hrl hb1 t1 t2 t3 hb1' hb2 hb3 hS hno hn hg e5
  go_enter Tryz.func5, Tryz.ntmps5
  go_wp2_with fail
  go_ret
  exact ⟨rfl, HB.out, HT.out⟩
theorem lentColumns_any (l : List Col) (ao : Option Addr) (c : Nat) (w : World) (hl : l.length ≤ 4398046511000) (hS : SL w ao (ccl l)) (hno : ao = none → c = 0) :
    Calls Tryz.prog 6 #[.slice ao l.length c] w fun r w' => r = .returned (.slice (some ⟨w.heap.size, 0, none⟩) (l.length + 2) (l.length + 2)) ∧ w'.heap[w.heap.size]? = some (.cells (lentK l).toArray 54 (0, 0)) ∧ Tch (fun _ => False) w w' := by
  obtain ⟨n, hn⟩ : ∃ n, n = l.length := ⟨_, rfl⟩
  obtain ⟨g, hg⟩ : ∃ g, g = w.heap.size := ⟨_, rfl⟩
  obtain ⟨w0, hw0⟩ : ∃ w0, w0 = w.alloc (.cells (rep (n + 2) [.string ⟨#[]⟩, .int .i64 0, .bool false]).toArray 54) := ⟨_, rfl⟩
  have t0 : Tch (fun _ => False) w w0 := by rw [hw0]; exact Tch.alloc _ _ _
  have hb0 : w0.heap[g]? = some (.cells (rep (n + 2) [.string ⟨#[]⟩, .int .i64 0, .bool false]).toArray 54 (0, 0)) := by rw [hw0, hg]; exact alloc_new _ _
  have hxl : (ccl l).length = n * 3 := by rw [ccl_len, hn]
  have hrl : (rep (n + 2) ([.string ⟨#[]⟩, .int .i64 0, .bool false] : List Value)).length = (n + 2) * 3 := by rw [rep_len]; rfl
  obtain ⟨w1, hr1, hb1, t1⟩ := copy_in (P := Tryz.prog) w0 22 54 54 g (n + 2) (n + 2) ao n c _ (ccl l) Tryz.underlying22 info_col3 hb0 hxl (by omega) (by rw [List.size_toArray, hrl]; omega) (ccl_one _) (hS.no t0) hno
  have hmk : (Instr.makeSlice 22 (.int .i64 ((n : Int) + 2)) (.int .i64 ((n : Int) + 2))).run Tryz.prog w = .ok (.slice (some ⟨g, 0, none⟩) (n + 2) (n + 2)) w0 := by
    have := make_col (n + 2) w (by omega)
    rw [show (((n + 2 : Nat)) : Int) = (n : Int) + 2 by omega] at this
    rw [this, hg, hw0]
  have hb1' : w1.heap[g]? = some (.cells (ccl l ++ ([.string ⟨#[]⟩, .int .i64 0, .bool false, .string ⟨#[]⟩, .int .i64 0, .bool false] : List Value)).toArray 54 (0, 0)) := by
    rw [hb1]
    congr 4
    have := rep_drop n 2 ([.string ⟨#[]⟩, .int .i64 0, .bool false] : List Value)
    exact this
  have e5 : (n + 1) * 3 = n * 3 + 3 := by omega
  have hb2 := blk_set (i := n * 3 + 0) hb1' (.string bhd)
  rw [set_tail _ _ _ _ hxl] at hb2
  have hb3 := blk_set (i := n * 3 + 3) hb2 (.string farS)
  rw [set_tail _ _ _ _ hxl] at hb3
  have c1 : w1.cell? ⟨g, n * 3 + 0, none⟩ = some (.string ⟨#[]⟩) := by
    rw [blk_cell hb1', List.getElem?_toArray, List.getElem?_append_right (by omega), hxl, Nat.add_sub_cancel_left]; rfl
  have c2 : (w1.setCell ⟨g, n * 3 + 0, none⟩ (.string bhd)).cell? ⟨g, n * 3 + 3, none⟩ = some (.string ⟨#[]⟩) := by
    rw [blk_cell hb2, List.getElem?_toArray, List.getElem?_append_right (by omega), hxl, Nat.add_sub_cancel_left]; rfl
  have g1 := blk_frozen hb1' (n * 3 + 0)
  have g2 := blk_frozen hb2 (n * 3 + 3)
  have hwr : IntKind.i64.wrap ((n : Int) + 2) = (n : Int) + 2 := wrap_of (by omega) (by omega)
  have hwr1 : IntKind.i64.wrap ((n : Int) + 1) = (n : Int) + 1 := wrap_of (by omega) (by omega)
  have t2 : Tch (fun i => i = g) w ((w1.setCell ⟨g, n * 3 + 0, none⟩ (.string bhd)).setCell ⟨g, n * 3 + 3, none⟩ (.string farS)) := (((t0.mono (fun _ _ e => e.elim)).trans' t1).setCellR _ _ rfl).setCellR _ _ rfl
  have t3 : Tch (fun _ => False) w ((w1.setCell ⟨g, n * 3 + 0, none⟩ (.string bhd)).setCell ⟨g, n * 3 + 3, none⟩ (.string farS)) := t2.mono (fun i hi e => by have e' : i = g := e; omega)
  rw [← e5] at c2 g2 t3 hb3
  rw [Nat.add_zero] at c1 g1 c2 g2 t3 hb3
  have HB : Hid _ := hb3
  have HT : Hid _ := t3
  rw [← hn, ← hg]
  unfold bhd farS at *
  clear hw0 t0 hb0 hxl hrl hb1 t1 t2 t3 hb1' hb2 hb3 hS hno hn hg e5
  go_enter Tryz.func6, Tryz.ntmps6
  go_wp2_with fail
  go_ret
  exact ⟨rfl, HB.out, HT.out⟩
end Go.Proofs.YteaagnlhkopgdaaGreatDoor.C
namespace Go.Proofs.YteaagnlhkopgdaaGreatDoor.C
open Go.RowKit Go Go.Sort
set_option maxRecDepth 100000
theorem set3c {W : World} {g c q : Nat} {t : TypeId} {cur : Array Value} (hh : W.heap[g]? = some (.cells cur t (0, 0))) (hs : cur.size = c * 3) (hq : q < c) (v0 v1 : Value) :
    (∃ y, W.cell? ⟨g, q * 3, none⟩ = some y) ∧ (∃ y, (W.setCell ⟨g, q * 3, none⟩ v0).cell? ⟨g, q * 3 + 1, none⟩ = some y) ∧ (∃ y, ((W.setCell ⟨g, q * 3, none⟩ v0).setCell ⟨g, q * 3 + 1, none⟩ v1).cell? ⟨g, q * 3 + 2, none⟩ = some y) ∧ ∀ j, W.frozen? ⟨g, j, none⟩ = false := by
  refine ⟨⟨cur[q * 3]'(by omega), by rw [blk_cell hh]; exact Array.getElem?_eq_getElem _⟩, ⟨cur[q * 3 + 1]'(by omega), ?_⟩, ⟨cur[q * 3 + 2]'(by omega), ?_⟩, fun j => blk_frozen hh j⟩
  · rw [World.cell?_setCell_other (h := by intro e; injection e; omega), blk_cell hh]; exact Array.getElem?_eq_getElem _
  · rw [World.cell?_setCell_other (h := by intro e; injection e; omega), World.cell?_setCell_other (h := by intro e; injection e; omega), blk_cell hh]; exact Array.getElem?_eq_getElem _
theorem backRow_any (l : List Val) (ao : Option Addr) (c g : Nat) (w : World) (hl : l.length ≤ 4398046511000) (hb : w.heap[g]? = some (.cells (lentR l).toArray 52 (0, 0))) (hS : SL w ao (vcl l)) :
    Calls Tryz.prog 8 #[.slice (some ⟨g, 0, none⟩) (l.length + 2) (l.length + 2), .slice ao l.length c] w fun r w' => r = .returned (.bool true) ∧ Tch (fun i => i = g) w w' := by
  obtain ⟨n, hn⟩ : ∃ n, n = l.length := ⟨_, rfl⟩
  have hxl : (vcl l).length = n * 3 := by rw [vcl_len, hn]
  have hsz : (lentR l).toArray.size = (n + 2) * 3 := by rw [List.size_toArray]; unfold lentR; rw [List.length_append, hxl]; simp only [List.length_cons, List.length_nil]; omega
  have c1 : w.cell? ⟨g, n * 3 + 2, none⟩ = some (.string ⟨#[98, 101, 104, 105, 110, 100]⟩) := by
    rw [blk_cell hb, List.getElem?_toArray]; unfold lentR; rw [List.getElem?_append_right (by omega), hxl, Nat.add_sub_cancel_left]; rfl
  have c2 : w.cell? ⟨g, (n + 1) * 3 + 2, none⟩ = some (.string ⟨#[102, 97, 114]⟩) := by
    rw [blk_cell hb, List.getElem?_toArray]; unfold lentR; rw [List.getElem?_append_right (by omega), hxl, show (n + 1) * 3 + 2 - n * 3 = 2 + 3 by omega]; rfl
  have HA : Hid (∀ j u, (vcl l)[j]? = some u → w.cell? ⟨g, j, none⟩ = some u) := fun j u hu => by
    have hj := (List.getElem?_eq_some_iff.1 hu).1
    rw [blk_cell hb, List.getElem?_toArray]; unfold lentR; rw [List.getElem?_append_left hj]; exact hu
  have HS : Hid (SL w ao (vcl l)) := hS
  have HB : Hid (∃ cu, w.heap[g]? = some (.cells cu 52 (0, 0)) ∧ cu.size = (n + 2) * 3) := ⟨_, hb, hsz⟩
  have Hn : Hid (n = l.length) := hn
  have hwr1 : IntKind.i64.wrap ((n : Int) + 1) = (n : Int) + 1 := wrap_of (by omega) (by omega)
  have hn9 : n ≤ 4398046511000 := by omega
  rw [← hn]
  clear hb hS hxl hsz hn hl
  go_enter Tryz.func8, Tryz.ntmps8
  go_wp2_with fail
  go_loopw [5, 6] (fun ok i wr => ok = .bool true ∧ ∃ q : Nat, i = .int .i64 q ∧ q ≤ n ∧ Hid (Tch (fun _ => False) w wr)) (fun _ i _ => n - (intOf i).toNat)
  case atStart => exact ⟨rfl, 0, rfl, by omega, Tch.refl _ _⟩
  case round =>
    clear c1 c2
    obtain ⟨rfl, q, rfl, hq, HT⟩ := hrel
    by_cases hlt : (q : Int) < n
    · have hkl : q < l.length := by have := Hn.out; omega
      obtain ⟨gl, o, rfl, ha⟩ := (HS.out.no HT.out).val hkl
      obtain ⟨a0, a1, a2⟩ := ha.val q hkl
      have hcc := f3_get (fun v : Val => Value.int .i64 v.k) (fun v => .int .i64 v.n) (fun v => .string v.s) l q hkl
      obtain ⟨cu, hh, _⟩ := HB.out
      have hgl := blk_lt hh
      have b0 := (HT.out.cell (p := ⟨g, q * 3, none⟩) hgl (fun e => e)).trans (HA.out (q * 3) _ hcc.1)
      have b1 := (HT.out.cell (p := ⟨g, q * 3 + 1, none⟩) hgl (fun e => e)).trans (HA.out (q * 3 + 1) _ hcc.2.1)
      have b2 := (HT.out.cell (p := ⟨g, q * 3 + 2, none⟩) hgl (fun e => e)).trans (HA.out (q * 3 + 2) _ hcc.2.2)
      obtain ⟨x, hx⟩ : ∃ x, x = l[q] := ⟨_, rfl⟩
      rw [← hx] at a0 a1 a2 b0 b1 b2
      obtain ⟨d, hd1, hd⟩ := eql_val x x
      obtain rfl : d = true := hd1.2 rfl
      clear hd1 hx hcc ha hh hgl
      go_wp2_with fail
      go_quiet (fail)
      go_wp2_with fail
      go_roundw
      case rel => exact ⟨rfl, q + 1, by go_num, by omega, HT.out.drewN _⟩
      case measure => simp [intOf]; omega
    · have HK0 : Hid (∃ cu, wr.heap[g]? = some (.cells cu 52 (0, 0)) ∧ cu.size = (n + 2) * 3) := by
        obtain ⟨cu, hh, hs⟩ := HB.out
        exact ⟨cu, (HT.out.block g (blk_lt hh) (fun e => e)).trans hh, hs⟩
      go_wp2_with fail
      go_loopw [7] (fun i wx => ∃ q : Nat, i = .int .i64 q ∧ q ≤ n + 2 ∧ Hid (∃ cu, wx.heap[g]? = some (.cells cu 52 (0, 0)) ∧ cu.size = (n + 2) * 3) ∧ Hid (Tch (fun i => i = g) wr wx)) (fun i _ => n + 2 - (intOf i).toNat)
      case atStart => exact ⟨0, rfl, by omega, HK0, Tch.refl _ _⟩
      case round =>
        clear HK0
        obtain ⟨k, rfl, hk, HK, HU⟩ := hrel
        by_cases hl2 : (k : Int) < (n : Int) + 2
        · obtain ⟨cu, hh, hs⟩ := HK.out
          obtain ⟨⟨z0, e0⟩, ⟨z1, e1⟩, ⟨z2, e2⟩, hf⟩ := set3c hh hs (by omega : k < n + 2) (.int .i64 9) (.int .i64 0)
          have f0 := hf (k * 3); have f1 := hf (k * 3 + 1); have f2 := hf (k * 3 + 2)
          have HK2 : Hid _ := (⟨_, blk_set (i := k * 3 + 2) (blk_set (i := k * 3 + 1) (blk_set (i := k * 3) hh (.int .i64 9)) (.int .i64 0)) (.string ⟨#[]⟩), by simp [hs]⟩ : ∃ cu, (((wr.setCell ⟨g, k * 3, none⟩ (.int .i64 9)).setCell ⟨g, k * 3 + 1, none⟩ (.int .i64 0)).setCell ⟨g, k * 3 + 2, none⟩ (.string ⟨#[]⟩)).heap[g]? = some (.cells cu 52 (0, 0)) ∧ cu.size = (n + 2) * 3)
          have HU2 : Hid _ := ((HU.out.setCellR ⟨g, k * 3, none⟩ (.int .i64 9) rfl).setCellR ⟨g, k * 3 + 1, none⟩ (.int .i64 0) rfl).setCellR ⟨g, k * 3 + 2, none⟩ (.string ⟨#[]⟩) rfl
          clear hf hh hs
          go_wp2_with fail
          go_roundw
          case rel => exact ⟨k + 1, by go_num, by omega, HK2, HU2⟩
          case measure => simp [intOf]; omega
        · go_wp2_with fail
          go_ret
          exact ⟨rfl, (HT.out.mono (fun _ _ e => e.elim)).trans HU.out (fun i _ e => e)⟩
theorem backColumns_any (l : List Col) (ao : Option Addr) (c g : Nat) (w : World) (hl : l.length ≤ 4398046511000) (hb : w.heap[g]? = some (.cells (lentK l).toArray 54 (0, 0))) (hS : SL w ao (ccl l)) :
    Calls Tryz.prog 9 #[.slice (some ⟨g, 0, none⟩) (l.length + 2) (l.length + 2), .slice ao l.length c] w fun r w' => r = .returned (.bool true) ∧ Tch (fun i => i = g) w w' := by
  obtain ⟨n, hn⟩ : ∃ n, n = l.length := ⟨_, rfl⟩
  have hxl : (ccl l).length = n * 3 := by rw [ccl_len, hn]
  have hsz : (lentK l).toArray.size = (n + 2) * 3 := by rw [List.size_toArray]; unfold lentK; rw [List.length_append, hxl]; simp only [List.length_cons, List.length_nil]; omega
  have c1 : w.cell? ⟨g, n * 3 + 0, none⟩ = some (.string ⟨#[98, 101, 104, 105, 110, 100]⟩) := by
    rw [blk_cell hb, List.getElem?_toArray]; unfold lentK; rw [List.getElem?_append_right (by omega), hxl, Nat.add_sub_cancel_left]; rfl
  have c2 : w.cell? ⟨g, (n + 1) * 3 + 0, none⟩ = some (.string ⟨#[102, 97, 114]⟩) := by
    rw [blk_cell hb, List.getElem?_toArray]; unfold lentK; rw [List.getElem?_append_right (by omega), hxl, show (n + 1) * 3 + 0 - n * 3 = 0 + 3 by omega]; rfl
  rw [Nat.add_zero] at c1 c2
  have HA : Hid (∀ j u, (ccl l)[j]? = some u → w.cell? ⟨g, j, none⟩ = some u) := fun j u hu => by
    have hj := (List.getElem?_eq_some_iff.1 hu).1
    rw [blk_cell hb, List.getElem?_toArray]; unfold lentK; rw [List.getElem?_append_left hj]; exact hu
  have HS : Hid (SL w ao (ccl l)) := hS
  have HB : Hid (∃ cu, w.heap[g]? = some (.cells cu 54 (0, 0)) ∧ cu.size = (n + 2) * 3) := ⟨_, hb, hsz⟩
  have Hn : Hid (n = l.length) := hn
  have hwr1 : IntKind.i64.wrap ((n : Int) + 1) = (n : Int) + 1 := wrap_of (by omega) (by omega)
  have hn9 : n ≤ 4398046511000 := by omega
  rw [← hn]
  clear hb hS hxl hsz hn hl
  go_enter Tryz.func9, Tryz.ntmps9
  go_wp2_with fail
  go_loopw [5, 6] (fun ok i wr => ok = .bool true ∧ ∃ q : Nat, i = .int .i64 q ∧ q ≤ n ∧ Hid (Tch (fun _ => False) w wr)) (fun _ i _ => n - (intOf i).toNat)
  case atStart => exact ⟨rfl, 0, rfl, by omega, Tch.refl _ _⟩
  case round =>
    clear c1 c2
    obtain ⟨rfl, q, rfl, hq, HT⟩ := hrel
    by_cases hlt : (q : Int) < n
    · have hkl : q < l.length := by have := Hn.out; omega
      obtain ⟨gl, o, rfl, ha⟩ := (HS.out.no HT.out).col hkl
      obtain ⟨a0, a1, a2⟩ := ha.col q hkl
      have hcc := f3_get (fun c : Col => Value.string c.nm) (fun c => .int .i64 c.k) (fun c => .bool c.nl) l q hkl
      obtain ⟨cu, hh, _⟩ := HB.out
      have hgl := blk_lt hh
      have b0 := (HT.out.cell (p := ⟨g, q * 3, none⟩) hgl (fun e => e)).trans (HA.out (q * 3) _ hcc.1)
      have b1 := (HT.out.cell (p := ⟨g, q * 3 + 1, none⟩) hgl (fun e => e)).trans (HA.out (q * 3 + 1) _ hcc.2.1)
      have b2 := (HT.out.cell (p := ⟨g, q * 3 + 2, none⟩) hgl (fun e => e)).trans (HA.out (q * 3 + 2) _ hcc.2.2)
      obtain ⟨x, hx⟩ : ∃ x, x = l[q] := ⟨_, rfl⟩
      rw [← hx] at a0 a1 a2 b0 b1 b2
      obtain ⟨d, hd1, hd⟩ := eql_col x x
      obtain rfl : d = true := hd1.2 rfl
      clear hd1 hx hcc ha hh hgl
      go_wp2_with fail
      go_quiet (fail)
      go_wp2_with fail
      go_roundw
      case rel => exact ⟨rfl, q + 1, by go_num, by omega, HT.out.drewN _⟩
      case measure => simp [intOf]; omega
    · have HK0 : Hid (∃ cu, wr.heap[g]? = some (.cells cu 54 (0, 0)) ∧ cu.size = (n + 2) * 3) := by
        obtain ⟨cu, hh, hs⟩ := HB.out
        exact ⟨cu, (HT.out.block g (blk_lt hh) (fun e => e)).trans hh, hs⟩
      go_wp2_with fail
      go_loopw [7] (fun i wx => ∃ q : Nat, i = .int .i64 q ∧ q ≤ n + 2 ∧ Hid (∃ cu, wx.heap[g]? = some (.cells cu 54 (0, 0)) ∧ cu.size = (n + 2) * 3) ∧ Hid (Tch (fun i => i = g) wr wx)) (fun i _ => n + 2 - (intOf i).toNat)
      case atStart => exact ⟨0, rfl, by omega, HK0, Tch.refl _ _⟩
      case round =>
        clear HK0
        obtain ⟨k, rfl, hk, HK, HU⟩ := hrel
        by_cases hl2 : (k : Int) < (n : Int) + 2
        · obtain ⟨cu, hh, hs⟩ := HK.out
          obtain ⟨⟨z0, e0⟩, ⟨z1, e1⟩, ⟨z2, e2⟩, hf⟩ := set3c hh hs (by omega : k < n + 2) (.string ⟨#[116, 117, 114, 110, 101, 100]⟩) (.int .i64 9)
          have f0 := hf (k * 3); have f1 := hf (k * 3 + 1); have f2 := hf (k * 3 + 2)
          have HK2 : Hid _ := (⟨_, blk_set (i := k * 3 + 2) (blk_set (i := k * 3 + 1) (blk_set (i := k * 3) hh (.string ⟨#[116, 117, 114, 110, 101, 100]⟩)) (.int .i64 9)) (.bool false), by simp [hs]⟩ : ∃ cu, (((wr.setCell ⟨g, k * 3, none⟩ (.string ⟨#[116, 117, 114, 110, 101, 100]⟩)).setCell ⟨g, k * 3 + 1, none⟩ (.int .i64 9)).setCell ⟨g, k * 3 + 2, none⟩ (.bool false)).heap[g]? = some (.cells cu 54 (0, 0)) ∧ cu.size = (n + 2) * 3)
          have HU2 : Hid _ := ((HU.out.setCellR ⟨g, k * 3, none⟩ (.string ⟨#[116, 117, 114, 110, 101, 100]⟩) rfl).setCellR ⟨g, k * 3 + 1, none⟩ (.int .i64 9) rfl).setCellR ⟨g, k * 3 + 2, none⟩ (.bool false) rfl
          clear hf hh hs
          go_wp2_with fail
          go_roundw
          case rel => exact ⟨k + 1, by go_num, by omega, HK2, HU2⟩
          case measure => simp [intOf]; omega
        · go_wp2_with fail
          go_ret
          exact ⟨rfl, (HT.out.mono (fun _ _ e => e.elim)).trans HU.out (fun i _ e => e)⟩
end Go.Proofs.YteaagnlhkopgdaaGreatDoor.C
