import Derived.Test.YteaagnlhkopgdaaGreatDoorWriter
set_option maxHeartbeats 1000000
set_option maxRecDepth 100000
namespace Go.Proofs.YteaagnlhkopgdaaGreatDoor
open Go.RowKit
theorem laidOn_nil (bs : List UInt8) (e : Int) : laidOn bs [] e = bs := by unfold laidOn; split <;> simp
theorem laidOn_cat (bs a l : List UInt8) (e : Int) : laidOn (laidOn bs a e) l e = laidOn bs (a ++ l) e := by unfold laidOn; split <;> simp
theorem laidOn_len (bs l : List UInt8) (e : Int) : (laidOn bs l e).length ≤ bs.length + l.length := by unfold laidOn; split <;> simp
theorem one_cell {W : World} {g : Nat} {x : UInt8} (h : W.cell? ⟨g, 0, none⟩ = some (.int .u8 (x.toNat : Int))) : ∀ j u, (Lib.byteCells [x])[j]? = some u → W.cell? ((⟨g, 0, none⟩ : Addr).add j) = some u := by
  intro j u hj
  rcases j with _ | j
  · simp [Lib.byteCells] at hj; subst hj; simpa [Addr.add] using h
  · simp [Lib.byteCells] at hj
theorem wdigits_any (b : Nat) (bs : List UInt8) (e : Int) (n : Nat) (w : World) (h : WS w b bs e) (hn : n < 18446744073709551616) (hlen : bs.length + 10 ≤ 140737488355328) :
    Calls Tryz.prog 113 #[.pointer (some ⟨b, 0, none⟩), .int .u64 n] w fun x w' => x = .returned (.tuple #[]) ∧ WS w' b (laidOn bs (dg n) e) e ∧ Tch (WT b w) w w' := by
  go_enter Tryz.func113, Tryz.ntmps113
  go_wp2
  go_loopw [1] (fun v wr => ∃ (m f : Nat) (pre : List UInt8), v = .int .u64 m ∧ (m : Int) ≤ 18446744073709551615 ∧ f < 10 ∧ m < 128 ^ (f + 1) ∧ Hid (pre.length + (f + 1) ≤ 10) ∧ Hid (pre ++ dgf (f + 1) m = dg n) ∧ WS wr b (laidOn bs pre e) e ∧ Tch (WT b w) w wr) (fun v _ => (intOf v).toNat)
  case atStart => exact ⟨n, 9, [], rfl, by omega, by omega, Nat.lt_of_lt_of_le hn (by decide), by show _ ≤ _; simp, rfl, by rw [laidOn_nil]; exact h, Tch.refl _ _⟩
  case round =>
    obtain ⟨m, f, pre, rfl, hmn, hf, hm, HL, HP, hW, hT⟩ := hrel
    have hlt := hW.lt
    have hle := laidOn_len bs pre e
    by_cases hlt128 : m < 128
    · have hl : ¬ (128 : Int) ≤ m := by omega
      have HC : Hid (laidOn (laidOn bs pre e) [UInt8.ofNat m] e = laidOn bs (dg n) e) := by
        show _ = _
        rw [laidOn_cat, ← HP.out, dgf_last hlt128]
      have hmb : (m : Int) ≤ 255 := by omega
      have HT1 : Hid ((UInt8.ofNat m).toNat = m) := by show _ = _; simp; omega
      have HX : Hid (∀ W : World, WS W b (laidOn bs pre e) e → ∀ g, W.cell? ⟨g, 0, none⟩ = some (.int .u8 (m : Int)) → Calls Tryz.prog 54 #[.pointer (some ⟨b, 0, none⟩), .slice (some ⟨g, 0, none⟩) 1 1] W fun x w' => x = .returned (.tuple #[]) ∧ WS w' b (laidOn bs (dg n) e) e ∧ Tch (WT b W) W w') := fun W hW g hg => by
        have := lay_any b (laidOn bs pre e) [UInt8.ofNat m] e ⟨g, 0, none⟩ 1 1 W hW rfl (one_cell (by rw [HT1.out]; exact hg)) (by have := HL.out; simp; omega)
        rw [HC.out] at this; exact this
      go_wp2_with (go_at_call 54; refine (HX.out _ (hW.tch (Tch.alloc (fun _ => False) _ _) (fun _ _ _ h => h)) _ ?_).mono ?_; simp; rintro x w1 ⟨rfl, h1, t1⟩)
      go_end0
      exact ⟨rfl, h1, wt_trans hT (wt_alloc t1)⟩
    · have hl : (128 : Int) ≤ m := by omega
      obtain ⟨f, rfl⟩ : ∃ f', f = f' + 1 := by
        rcases f with _ | f
        · simp at hm; omega
        · exact ⟨f, rfl⟩
      have HM : Hid (m / 128 < 128 ^ (f + 1)) := by
        show _ < _
        rw [Nat.pow_succ] at hm
        exact Nat.div_lt_of_lt_mul (by rw [Nat.mul_comm]; exact hm)
      have HC : Hid (laidOn (laidOn bs pre e) [UInt8.ofNat (m % 128 + 128)] e = laidOn bs (pre ++ [UInt8.ofNat (m % 128 + 128)]) e) := by
        show _ = _
        rw [laidOn_cat]
      have HP2 : Hid ((pre ++ [UInt8.ofNat (m % 128 + 128)]) ++ dgf (f + 1) (m / 128) = dg n) := by
        show _ = _
        rw [← HP.out, dgf_more hlt128]; simp
      have HT1 : Hid ((UInt8.ofNat (m % 128 + 128)).toNat = m % 128 + 128) := by show _ = _; simp; omega
      have HX : Hid (∀ W : World, WS W b (laidOn bs pre e) e → ∀ g, W.cell? ⟨g, 0, none⟩ = some (.int .u8 ((m : Int) % 128 + 128)) → Calls Tryz.prog 54 #[.pointer (some ⟨b, 0, none⟩), .slice (some ⟨g, 0, none⟩) 1 1] W fun x w' => x = .returned (.tuple #[]) ∧ WS w' b (laidOn bs (pre ++ [UInt8.ofNat (m % 128 + 128)]) e) e ∧ Tch (WT b W) W w') := fun W hW g hg => by
        have := lay_any b (laidOn bs pre e) [UInt8.ofNat (m % 128 + 128)] e ⟨g, 0, none⟩ 1 1 W hW rfl (one_cell (by rw [HT1.out]; exact hg)) (by have := HL.out; simp; omega)
        rw [HC.out] at this; exact this
      go_wp2_with (go_at_call 54; refine (HX.out _ (hW.tch (Tch.alloc (fun _ => False) _ _) (fun _ _ _ h => h)) _ ?_).mono ?_; simp; rintro x w1 ⟨rfl, h1, t1⟩)
      go_roundw
      case rel => exact ⟨m / 128, f, _, by go_num, by omega, by omega, HM.out, by have := HL.out; show _ ≤ _; simp; omega, HP2, h1, wt_trans hT (wt_alloc t1)⟩
      case measure => simp [intOf]; omega
theorem upd_lay (bs l : List UInt8) (e : Int) : upd bs e l 0 = (laidOn bs l e, e) := by
  unfold upd laidOn
  by_cases he : e = 0
  · simp [he]
  · simp [he]
theorem upd_fail (bs l : List UInt8) (e c : Int) (hc : c ≠ 0) : upd bs e l c = (failB bs e, failE e c) := by
  unfold upd failB failE
  by_cases he : e = 0
  · simp [he, hc]
  · simp [he]
def varL (n : Int) : List UInt8 := dg n.toNat
def varC (n : Int) : Int := if n < 0 then 10 else 0
theorem wvar_any (b : Nat) (bs : List UInt8) (e n : Int) (w : World) (h : WS w b bs e) (hn : n ≤ 9223372036854775807) (hlen : bs.length + 10 ≤ 140737488355328) :
    Calls Tryz.prog 111 #[.pointer (some ⟨b, 0, none⟩), .int .i64 n] w fun x w' => x = .returned (.tuple #[]) ∧ WS w' b (upd bs e (varL n) (varC n)).1 (upd bs e (varL n) (varC n)).2 ∧ Tch (WT b w) w w' := by
  by_cases h0 : n < 0
  · have hf := wfail_any b bs e 10 w h (by omega)
    have HU : Hid (upd bs e (varL n) (varC n) = (failB bs e, failE e 10)) := by show _ = _; unfold varC; rw [if_pos h0]; exact upd_fail _ _ _ _ (by omega)
    rw [HU.out]
    go_enter Tryz.func111, Tryz.ntmps111
    go_wp2_with (go_at_call 53; refine hf.mono ?_; rintro x w1 ⟨rfl, h1, t1⟩)
    refine bodyPost_ret (results_none rfl _ _ _) rfl ?_
    exact ⟨rfl, h1, t1⟩
  · obtain ⟨m, rfl⟩ : ∃ m : Nat, n = m := ⟨n.toNat, by omega⟩
    have hd := wdigits_any b bs e m w h (by omega) hlen
    have HU : Hid (upd bs e (varL m) (varC m) = (laidOn bs (dg m) e, e)) := by show _ = _; unfold varC varL; rw [if_neg h0]; simp only [Int.toNat_natCast]; exact upd_lay _ _ _
    rw [HU.out]
    go_enter Tryz.func111, Tryz.ntmps111
    go_wp2_with (go_at_call 113; refine hd.mono ?_; rintro x w1 ⟨rfl, h1, t1⟩)
    go_end0
    exact ⟨rfl, h1, t1⟩
theorem fold_any (n : Int) (w : World) (h1 : -9223372036854775808 ≤ n) (h2 : n ≤ 9223372036854775807) :
    Calls Tryz.prog 156 #[.int .i64 n] w fun x w' => x = .returned (.int .u64 (fol n : Nat)) ∧ w' = w := by
  by_cases h0 : 0 ≤ n
  · have HU : Hid (2 * n = (fol n : Nat)) := by show _ = _; unfold fol; rw [if_pos h0]; omega
    go_enter Tryz.func156, Tryz.ntmps156
    go_wp2
    go_ret
    exact ⟨ret_int HU.out, rfl⟩
  · have HU : Hid (2 * (-(n + 1)) + 1 = (fol n : Nat)) := by show _ = _; unfold fol; rw [if_neg h0]; omega
    go_enter Tryz.func156, Tryz.ntmps156
    go_wp2
    go_ret
    exact ⟨ret_int HU.out, rfl⟩
theorem fol_lt (n : Int) (h1 : -9223372036854775808 ≤ n) (h2 : n ≤ 9223372036854775807) : fol n < 18446744073709551616 := by
  unfold fol; split <;> omega
theorem wint_any (b : Nat) (bs : List UInt8) (e n : Int) (w : World) (h : WS w b bs e) (h1 : -9223372036854775808 ≤ n) (h2 : n ≤ 9223372036854775807) (hlen : bs.length + 10 ≤ 140737488355328) :
    Calls Tryz.prog 154 #[.pointer (some ⟨b, 0, none⟩), .int .i64 n] w fun x w' => x = .returned (.tuple #[]) ∧ WS w' b (laidOn bs (dg (fol n)) e) e ∧ Tch (WT b w) w w' := by
  have hd := wdigits_any b bs e (fol n) w h (fol_lt n h1 h2) hlen
  have hf := fold_any n w h1 h2
  go_enter Tryz.func154, Tryz.ntmps154
  go_wp2_with (first | (go_at_call 156; refine hf.mono ?_; rintro x w1 ⟨rfl, rfl⟩) | (go_at_call 113; refine hd.mono ?_; rintro x w1 ⟨rfl, h1, t1⟩))
  go_end0
  exact ⟨rfl, h1, t1⟩
theorem bytesWorld_cells (w : World) (s : ByteArray) : ∀ j u, (Lib.byteCells s.data.toList)[j]? = some u → (Lib.bytesWorld w 5 s).cell? ((⟨w.heap.size, 0, none⟩ : Addr).add j) = some u := by
  intro j u hj
  have hjl : j < s.data.toList.length := by
    have := (List.getElem?_eq_some_iff.1 hj).1
    simpa [Lib.byteCells] using this
  have hjs : j < s.size := by simpa using hjl
  have h1 := Lib.bytesWorld_cell w 5 s j hjs
  have e1 : ((⟨w.heap.size, 0, none⟩ : Addr).add j) = ⟨w.heap.size, j, none⟩ := by simp [Addr.add]; omega
  rw [e1, h1]
  simp only [Lib.byteCells, List.getElem?_map, List.getElem?_eq_getElem hjl, Option.map_some, Option.some.injEq] at hj
  rw [← hj, List.getD_eq_getElem?_getD, List.getElem?_eq_getElem hjl]
  rfl
theorem bytesWorld_tch (S : Nat → Prop) (w : World) (s : ByteArray) : Tch S w (Lib.bytesWorld w 5 s) :=
  ⟨rfl, rfl, rfl, by rw [Lib.bytesWorld_size]; omega, fun k hk _ => Lib.bytesWorld_at_old w 5 s k hk⟩
theorem wt_bytes {b : Nat} {w w1 : World} {s : ByteArray} (h : Tch (WT b (Lib.bytesWorld w 5 s)) (Lib.bytesWorld w 5 s) w1) : Tch (WT b w) w w1 := by
  refine (bytesWorld_tch (WT b w) w s).trans h (fun i hi ht => ?_)
  rcases ht with ht | ⟨ht, cur, fr, hh⟩
  · exact Or.inl ht
  · rw [Lib.bytesWorld_at_old w 5 s i hi] at hh
    exact Or.inr ⟨ht, cur, fr, hh⟩
theorem wraw_any (b : Nat) (bs : List UInt8) (e : Int) (s : ByteArray) (w : World) (h : WS w b bs e) (hlen : bs.length + s.size ≤ 140737488355328) :
    Calls Tryz.prog 136 #[.pointer (some ⟨b, 0, none⟩), .string s] w fun x w' => x = .returned (.tuple #[]) ∧ WS w' b (laidOn bs s.data.toList e) e ∧ Tch (WT b w) w w' := by
  have hcv := fun (W : World) => Lib.run_convert_string_bytes (P := Tryz.prog) W 9 46 5 s Tryz.underlying9 Tryz.underlying46 Tryz.underlying5
  have hl := lay_any b bs s.data.toList e ⟨w.heap.size, 0, none⟩ s.size (grownCap w s.size 0 5) (Lib.bytesWorld w 5 s) (h.tch (bytesWorld_tch (fun _ => False) w s) (fun _ _ _ h => h)) (by simp) (bytesWorld_cells w s) (by simpa using hlen)
  go_enter Tryz.func136, Tryz.ntmps136
  go_wp2_with (go_at_call 54; refine hl.mono ?_; rintro x w1 ⟨rfl, h1, t1⟩)
  go_end0
  exact ⟨rfl, h1, wt_bytes t1⟩
def textC (s : ByteArray) (most : Int) : Int := if most < 0 then 1 else if most < s.size then 12 else 0
def textL (s : ByteArray) : List UInt8 := dg s.size ++ s.data.toList
theorem wtext_any (b : Nat) (bs : List UInt8) (e : Int) (s : ByteArray) (most : Int) (w : World) (h : WS w b bs e) (hlen : bs.length + 10 + s.size ≤ 140737488355328) :
    Calls Tryz.prog 134 #[.pointer (some ⟨b, 0, none⟩), .string s, .int .i64 most] w fun x w' => x = .returned (.tuple #[]) ∧ WS w' b (upd bs e (textL s) (textC s most)).1 (upd bs e (textL s) (textC s most)).2 ∧ Tch (WT b w) w w' := by
  by_cases h0 : most < 0
  · have hf := wfail_any b bs e 1 w h (by omega)
    have HU : Hid (upd bs e (textL s) (textC s most) = (failB bs e, failE e 1)) := by show _ = _; unfold textC; rw [if_pos h0]; exact upd_fail _ _ _ _ (by omega)
    rw [HU.out]
    go_enter Tryz.func134, Tryz.ntmps134
    go_wp2_with (go_at_call 53; refine hf.mono ?_; rintro x w1 ⟨rfl, h1, t1⟩)
    go_end0
    exact ⟨rfl, h1, t1⟩
  · by_cases h12 : most < s.size
    · have hf := wfail_any b bs e 12 w h (by omega)
      have HU : Hid (upd bs e (textL s) (textC s most) = (failB bs e, failE e 12)) := by show _ = _; unfold textC; rw [if_neg h0, if_pos h12]; exact upd_fail _ _ _ _ (by omega)
      rw [HU.out]
      go_enter Tryz.func134, Tryz.ntmps134
      go_wp2_with (go_at_call 53; refine hf.mono ?_; rintro x w1 ⟨rfl, h1, t1⟩)
      go_end0
      exact ⟨rfl, h1, t1⟩
    · have hv := wvar_any b bs e s.size w h (by omega) (by omega)
      have HV : Hid (upd bs e (varL s.size) (varC s.size) = (laidOn bs (dg s.size) e, e)) := by show _ = _; unfold varC varL; rw [if_neg (by omega)]; simp only [Int.toNat_natCast]; exact upd_lay _ _ _
      rw [HV.out] at hv
      have hle := laidOn_len bs (dg s.size) e
      have hdl := dgf_len 10 s.size
      have HR : Hid (∀ W, WS W b (laidOn bs (dg s.size) e) e → Calls Tryz.prog 136 #[.pointer (some ⟨b, 0, none⟩), .string s] W fun x w' => x = .returned (.tuple #[]) ∧ WS w' b (laidOn bs (textL s) e) e ∧ Tch (WT b W) W w') := fun W hW => by
        have := wraw_any b (laidOn bs (dg s.size) e) e s W hW (by unfold dg at *; omega)
        rw [laidOn_cat] at this; exact this
      have HU : Hid (upd bs e (textL s) (textC s most) = (laidOn bs (textL s) e, e)) := by show _ = _; unfold textC; rw [if_neg h0, if_neg h12]; exact upd_lay _ _ _
      rw [HU.out]
      clear hle hdl
      go_enter Tryz.func134, Tryz.ntmps134
      go_wp2_with (first | (go_at_call 111; refine hv.mono ?_; rintro x w1 ⟨rfl, h1, t1⟩) | (go_at_call 136; refine (HR.out _ h1).mono ?_; rintro x w2 ⟨rfl, h2, t2⟩))
      go_end0
      exact ⟨rfl, h2, wt_trans t1 t2⟩
end Go.Proofs.YteaagnlhkopgdaaGreatDoor
namespace Go.Proofs.YteaagnlhkopgdaaGreatDoor
open Go.RowKit
theorem conv_row {w : World} {base : Nat} {v : Value} {bs : List UInt8} (h : w.ownsRow base 5 1 v bs.length (Lib.byteCells bs)) : (convert 46 9 v).run Tryz.prog w = .ok (.string ⟨bs.toArray⟩) w := by
  rcases h.2 with ⟨rfl, h2⟩ | ⟨g, cap, cur, rfl, _, hh, _, _, _, hx⟩
  · obtain rfl : bs = [] := List.eq_nil_of_length_eq_zero h2
    exact Lib.run_convert_nil_bytes w 46 9 5 0 Tryz.underlying46 Tryz.underlying5 Tryz.underlying9
  · refine run_convert_bytes_back w 46 9 5 ⟨g, 0, none⟩ cap bs Tryz.underlying46 Tryz.underlying5 Tryz.underlying9 ?_
    exact Lib.bytes_of_row hh (by simpa using hx)
theorem wdone_ok (b : Nat) (bs : List UInt8) (w : World) (h : WS w b bs 0) (hg : HE w) :
    Calls Tryz.prog 32 #[.pointer (some ⟨b, 0, none⟩)] w fun x w' => x = .returned (.tuple #[.string ⟨bs.toArray⟩, .int .i64 0]) ∧ Tch (fun _ => False) w w' := by
  obtain ⟨v, c0, hown⟩ := h.row
  have c1 := h.c1
  have hl := h.lt
  obtain ⟨ao, cp, hv⟩ := slice_of hown
  subst hv
  have HC : Hid (∀ W, Tch (fun _ => False) w W → (convert 46 9 (.slice ao bs.length cp)).run Tryz.prog W = .ok (.string ⟨bs.toArray⟩) W ∧ W.cell? ⟨b, 0, none⟩ = some (.slice ao bs.length cp)) := fun W t =>
    ⟨conv_row (ownsRow_tch hown t (fun _ _ _ h => h)), (t.cell (p := ⟨b, 0, none⟩) hl (fun h => h)).trans c0⟩
  go_enter Tryz.func32, Tryz.ntmps32
  go_wp2_with (go_at_call 55; refine (codeOf_any 0 _ hg).mono ?_; rintro x w1 ⟨rfl, hb⟩; obtain ⟨hcv, d0⟩ := HC.out w1 (Tch.of_below hb (Nat.le_refl _)); clear c0 c1)
  go_ret2
  exact ⟨rfl, Tch.of_below hb (Nat.le_refl _)⟩
theorem wdone_bad (b : Nat) (bs : List UInt8) (e : Int) (w : World) (h : WS w b bs e) (hg : HE w) (he : e ≠ 0) :
    Calls Tryz.prog 32 #[.pointer (some ⟨b, 0, none⟩)] w fun x w' => x = .returned (.tuple #[.string ⟨#[]⟩, .int .i64 e]) ∧ Tch (fun _ => False) w w' := by
  have c1 := h.c1
  have hn : (e != 0) = true := by simpa using he
  go_enter Tryz.func32, Tryz.ntmps32
  go_wp2_with (go_at_call 55; refine (codeOf_any e _ hg).mono ?_; rintro x w1 ⟨rfl, hb⟩)
  go_ret2
  exact ⟨rfl, Tch.of_below hb (Nat.le_refl _)⟩
theorem wdone_any (b : Nat) (bs : List UInt8) (e : Int) (w : World) (h : WS w b bs e) (hg : HE w) :
    Calls Tryz.prog 32 #[.pointer (some ⟨b, 0, none⟩)] w fun x w' => x = .returned (.tuple #[.string ⟨bs.toArray⟩, .int .i64 e]) ∧ Tch (fun _ => False) w w' := by
  by_cases he : e = 0
  · subst he; exact wdone_ok b bs w h hg
  · have := wdone_bad b bs e w h hg he
    rw [h.bad he]; exact this
theorem newWriter_any (w : World) :
    Calls Tryz.prog 30 #[] w fun x w' => x = .returned (.pointer (some ⟨w.heap.size, 0, none⟩)) ∧ WS w' w.heap.size [] 0 ∧ Tch (fun _ => False) w w' ∧ w'.heap.size = w.heap.size + 1 := by
  go_enter Tryz.func30, Tryz.ntmps30
  go_wp2
  go_ret
  exact ⟨rfl, ⟨⟨.slice none 0 0, by simp, rfl, Or.inl ⟨rfl, rfl⟩⟩, by simp [errV_zero], by simp, by simp, fun h => absurd rfl h⟩, Tch.alloc _ _ _, by simp⟩
theorem newReader_any (s : ByteArray) (w : World) :
    Calls Tryz.prog 26 #[.string s] w fun x w' => x = .returned (.pointer (some ⟨w.heap.size, 0, none⟩)) ∧ RD w' w.heap.size s 0 0 ∧ Tch (fun _ => False) w w' ∧ w'.heap.size = w.heap.size + 1 := by
  have e0 : s.extract 0 s.size = s := by simp
  go_enter Tryz.func26, Tryz.ntmps26
  go_wp2
  go_ret
  exact ⟨rfl, ⟨⟨by rw [e0]; simp, by simp, by simp [errV_zero], by simp, by simp, by simp⟩, Nat.zero_le _⟩, Tch.alloc _ _ _, by simp⟩
def byteOk (n : Int) : Bool := decide (0 ≤ n ∧ n ≤ 255)
def bytesC (l : List Int) : Int := if l.all byteOk then 0 else 10
def bytesL (l : List Int) : List UInt8 := l.map fun n => UInt8.ofNat n.toNat
theorem wbyte_any (b : Nat) (bs : List UInt8) (e : Int) (l : List Int) (g cap : Nat) (w : World) (h : WS w b bs e) (hlen : bs.length + l.length ≤ 140737488355328) (hgb : g ≠ b) (hrow : ∃ cur fr, w.heap[g]? = some (.cells cur 3 fr))
    (hcells : ∀ j (hj : j < l.length), w.cell? ⟨g, j, none⟩ = some (.int .i64 l[j])) :
    Calls Tryz.prog 31 #[.pointer (some ⟨b, 0, none⟩), .slice (some ⟨g, 0, none⟩) l.length cap] w fun x w' => x = .returned (.tuple #[]) ∧ WS w' b (upd bs e (bytesL l) (bytesC l)).1 (upd bs e (bytesL l) (bytesC l)).2 ∧ Tch (WT b w) w w' := by
  have hnot : ¬ WT b w g := by
    rintro (h1 | ⟨_, cur, fr, h1⟩)
    · exact hgb h1
    · obtain ⟨cur', fr', h2⟩ := hrow
      rw [h2] at h1; simp at h1
  have hgl : g < w.heap.size := by
    obtain ⟨cur', fr', h2⟩ := hrow
    rcases Nat.lt_or_ge g w.heap.size with h1 | h1
    · exact h1
    · rw [Array.getElem?_eq_none h1] at h2; cases h2
  have HG : Hid (∀ W, Tch (WT b w) w W → ∀ j (hj : j < l.length), W.cell? ⟨g, j, none⟩ = some (.int .i64 l[j])) := fun W t j hj => (t.cell (p := ⟨g, j, none⟩) hgl hnot).trans (hcells j hj)
  clear hcells hrow hnot
  go_enter Tryz.func31, Tryz.ntmps31
  go_wp2
  go_loopw [8] (fun i wr => ∃ k : Nat, i = .int .i64 k ∧ k ≤ l.length ∧ Hid ((l.take k).all byteOk = true) ∧ WS wr b (laidOn bs (bytesL (l.take k)) e) e ∧ Tch (WT b w) w wr) (fun i _ => l.length - (intOf i).toNat)
  case atStart => exact ⟨0, rfl, Nat.zero_le _, rfl, by simp only [List.take_zero, bytesL, List.map_nil, laidOn_nil]; exact h, Tch.refl _ _⟩
  case round =>
    obtain ⟨k, rfl, hk, HA, hW, hT⟩ := hrel
    have hlt := hW.lt
    by_cases hkl : k < l.length
    · have hkl' : (k : Int) < l.length := by omega
      have hc := HG.out wr hT k hkl
      obtain ⟨x, hx⟩ : ∃ x, x = l[k] := ⟨_, rfl⟩
      rw [← hx] at hc
      have HX : Hid (x = l[k]) := hx
      clear hx
      by_cases hb : byteOk x = true
      · have hb' : 0 ≤ x ∧ x ≤ 255 := by simpa [byteOk] using hb
        obtain ⟨hb0, hb1⟩ := hb'
        clear hb
        have HT1 : Hid (((UInt8.ofNat x.toNat).toNat : Int) = x) := by show _ = _; simp; omega
        have hle := laidOn_len bs (bytesL (l.take k)) e
        have hbl : (bytesL (l.take k)).length = k := by simp [bytesL]; omega
        have HTK : Hid (l.take (k + 1) = l.take k ++ [x]) := by show _ = _; rw [List.take_succ_eq_append_getElem hkl, HX.out]
        have HC : Hid (laidOn (laidOn bs (bytesL (l.take k)) e) [UInt8.ofNat x.toNat] e = laidOn bs (bytesL (l.take (k + 1))) e) := by
          show _ = _
          rw [laidOn_cat, HTK.out]; simp [bytesL]
        have HA2 : Hid ((l.take (k + 1)).all byteOk = true) := by
          show _ = _
          rw [HTK.out, List.all_append, HA.out]; simp [byteOk]; omega
        have HX2 : Hid (∀ W : World, WS W b (laidOn bs (bytesL (l.take k)) e) e → ∀ g, W.cell? ⟨g, 0, none⟩ = some (.int .u8 x) → Calls Tryz.prog 54 #[.pointer (some ⟨b, 0, none⟩), .slice (some ⟨g, 0, none⟩) 1 1] W fun x w' => x = .returned (.tuple #[]) ∧ WS w' b (laidOn bs (bytesL (l.take (k + 1))) e) e ∧ Tch (WT b W) W w') := fun W hW g hg => by
          have := lay_any b (laidOn bs (bytesL (l.take k)) e) [UInt8.ofNat x.toNat] e ⟨g, 0, none⟩ 1 1 W hW rfl (one_cell (by rw [HT1.out]; exact hg)) (by simp; omega)
          rw [HC.out] at this; exact this
        clear hle hbl
        go_wp2_with (go_at_call 54; refine (HX2.out _ (hW.tch (Tch.alloc (fun _ => False) _ _) (fun _ _ _ h => h)) _ ?_).mono ?_; simp; rintro x w1 ⟨rfl, h1, t1⟩)
        go_roundw
        case rel => exact ⟨k + 1, by go_num, by omega, HA2, h1, wt_trans hT (wt_alloc t1)⟩
        case measure => simp [intOf]; omega
      · have HC : Hid (bytesC l = 10) := by
          show _ = _
          unfold bytesC
          rw [if_neg]
          intro hall
          rw [List.all_eq_true] at hall
          exact hb (hall x (by rw [HX.out]; exact List.getElem_mem hkl))
        have HF : Hid ((failB (laidOn bs (bytesL (l.take k)) e) e, failE e 10) = upd bs e (bytesL l) (bytesC l)) := by
          show _ = _
          rw [HC.out, upd_fail _ _ _ _ (by omega)]
          unfold failB laidOn
          by_cases he : e = 0 <;> simp [he]
        have hf := wfail_any b (laidOn bs (bytesL (l.take k)) e) e 10 wr hW (by omega)
        have hb' : ¬ (0 ≤ x ∧ x ≤ 255) := by simpa [byteOk] using hb
        clear hb
        by_cases hx0 : x < 0
        · go_wp2_with (go_at_call 53; refine hf.mono ?_; rintro x w1 ⟨rfl, h1, t1⟩)
          refine bodyPost_ret (results_none rfl _ _ _) rfl ?_
          rw [← HF.out]
          exact ⟨rfl, h1, wt_trans hT t1⟩
        · have hx1 : 255 < x := by omega
          go_wp2_with (go_at_call 53; refine hf.mono ?_; rintro x w1 ⟨rfl, h1, t1⟩)
          refine bodyPost_ret (results_none rfl _ _ _) rfl ?_
          rw [← HF.out]
          exact ⟨rfl, h1, wt_trans hT t1⟩
    · have hkl' : ¬ (k : Int) < l.length := by omega
      have HU : Hid (upd bs e (bytesL l) (bytesC l) = (laidOn bs (bytesL (l.take k)) e, e)) := by
        show _ = _
        have hk2 : l.take k = l := List.take_of_length_le (by omega)
        have h1 := HA.out
        rw [hk2] at h1 ⊢
        unfold bytesC; rw [if_pos h1]; exact upd_lay _ _ _
      go_wp2
      go_end0
      rw [HU.out]
      exact ⟨rfl, hW, hT⟩
end Go.Proofs.YteaagnlhkopgdaaGreatDoor
namespace Go.Proofs.YteaagnlhkopgdaaGreatDoor
theorem laidOn_zero (bs l : List UInt8) : laidOn bs l 0 = bs ++ l := by simp [laidOn]
theorem dgs_dg {last top : Nat} : ∀ (l : List UInt8) (i m n k f : Nat), dgs last top l i m = (n, k, 0) → m < 128 ^ i → k ≤ i + f → i < k ∧ ∃ q, n = m + q * 128 ^ i ∧ l.take (k - i) = dgf f q ∧ (0 < i → 0 < q) := by
  intro l
  induction l with
  | nil => intro i m n k f h; simp [dgs] at h
  | cons b r ih =>
    intro i m n k f h hm hk
    have hb := b.toNat_lt
    by_cases hA : i + 1 = last ∧ top < b.toNat
    · rw [dgs_range hA.1 hA.2] at h; simp at h
    · by_cases hB : 128 ≤ b.toNat
      · rw [dgs_more hA hB] at h
        obtain ⟨h1, q, h2, h3, h4⟩ := ih (i + 1) _ n k (f - 1) h (step_lt hm) (by omega)
        refine ⟨by omega, b.toNat % 128 + q * 128, ?_, ?_, fun _ => by have := h4 (by omega); omega⟩
        · rw [h2, Nat.pow_succ, Nat.add_mul, ← Nat.add_assoc]
          have e : q * 128 * 128 ^ i = q * (128 ^ i * 128) := by rw [Nat.mul_assoc, Nat.mul_comm 128]
          omega
        · obtain ⟨f', rfl⟩ : ∃ f', f = f' + 1 := ⟨f - 1, by omega⟩
          have hq := h4 (by omega)
          have hs : k - i = (k - (i + 1)) + 1 := by omega
          rw [hs, List.take_succ_cons, h3, dgf_more (by omega)]
          have e1 : (b.toNat % 128 + q * 128) / 128 = q := by omega
          have e2 : (b.toNat % 128 + q * 128) % 128 + 128 = b.toNat := by omega
          rw [e1, e2]
          simp
      · by_cases hz : b.toNat = 0 ∧ 0 < i
        · rw [dgs_form hA hz.1 hz.2] at h; simp at h
        · rw [dgs_end hA (by omega) hz] at h
          simp only [Prod.mk.injEq] at h
          obtain ⟨h1, h2, _⟩ := h
          subst h2
          obtain ⟨f', rfl⟩ : ∃ f', f = f' + 1 := ⟨f - 1, by omega⟩
          refine ⟨by omega, b.toNat, ?_, ?_, fun hi => by omega⟩
          · rw [← h1, Nat.mod_eq_of_lt (by omega)]
          · have hs : i + 1 - i = 0 + 1 := by omega
            rw [hs, List.take_succ_cons, dgf_last (by omega)]
            simp
theorem dgs_dg0 {last top : Nat} (hl : last ≤ 10) (ht : top ≤ 127) (h10 : last = 10 → top ≤ 1) (hl0 : 0 < last) {l : List UInt8} {n k : Nat} (h : dgs last top l 0 0 = (n, k, 0)) : l.take k = dg n := by
  obtain ⟨_, _, h3, _⟩ := dgs_ok hl ht h10 _ _ _ _ _ (by decide) hl0 h
  obtain ⟨_, q, h2, h4, _⟩ := dgs_dg l 0 0 n k 10 h (by decide) (by omega)
  have : n = q := by simpa using h2
  subst this
  simpa [dg] using h4
theorem take_add (l : List UInt8) (a k : Nat) : l.take a ++ (l.drop a).take k = l.take (a + k) := by rw [List.take_add]
theorem fol_unf (u : Nat) : fol (unf u) = u := by
  unfold fol unf
  by_cases h : u % 2 = 0
  · rw [if_pos h, if_pos (by omega)]; omega
  · rw [if_neg h, if_neg (by omega)]; omega
theorem unf_rng (u : Nat) (h : u < 18446744073709551616) : -9223372036854775808 ≤ unf u ∧ unf u ≤ 9223372036854775807 := by
  unfold unf; split <;> omega
theorem ag_byte {S : ByteArray} {a v a' : Nat} {e' : Int} (h : byteR S a 0 = (v, a', e')) : v ≤ 255 ∧ ((e' = 0 ∧ a ≤ a' ∧ a' ≤ S.size ∧ upd (S.data.toList.take a) 0 (bytesL [(v : Int)]) (bytesC [(v : Int)]) = (S.data.toList.take a', 0)) ∨ (e' ≠ 0 ∧ e' ≠ 13 ∧ a' = a)) := by
  unfold byteR at h
  rw [if_neg (by simp)] at h
  by_cases ha : a < S.size
  · rw [if_pos ha] at h
    simp only [Prod.mk.injEq] at h
    obtain ⟨h1, h2, h3⟩ := h
    have hv : v ≤ 255 := by have := (S.data.toList.getD a 0).toNat_lt; omega
    refine ⟨hv, Or.inl ⟨h3.symm, by omega, by omega, ?_⟩⟩
    have hc : bytesC [(v : Int)] = 0 := by unfold bytesC; rw [if_pos]; simp [byteOk]; omega
    rw [hc, upd_lay]
    have hal : a < S.data.toList.length := by simpa using ha
    rw [← h2, List.take_succ_eq_append_getElem hal]
    have hb : bytesL [(v : Int)] = [S.data.toList[a]] := by
      simp only [bytesL, List.map_cons, List.map_nil, Int.toNat_natCast]
      rw [← h1, List.getD_eq_getElem?_getD, List.getElem?_eq_getElem hal]
      simp
    rw [hb]
    simp [laidOn]
  · rw [if_neg ha] at h
    simp only [Prod.mk.injEq] at h
    exact ⟨by omega, Or.inr ⟨by omega, by omega, by omega⟩⟩
theorem ag_num {last top : Nat} (hl : last ≤ 10) (ht : top ≤ 127) (h10 : last = 10 → top ≤ 1) (hl0 : 0 < last) {S : ByteArray} {a n a' : Nat} {e' : Int} (hle : a ≤ S.size) (h : numR last top S a 0 = (n, a', e')) :
    (e' = 0 ∧ a ≤ a' ∧ a' ≤ S.size ∧ S.data.toList.take a ++ dg n = S.data.toList.take a') ∨ (e' ≠ 0 ∧ e' ≠ 13 ∧ a' = a ∧ n = 0) := by
  rcases hd : dgs last top (S.data.toList.drop a) 0 0 with ⟨m, k, c⟩
  by_cases hc : c = 0
  · subst hc
    rw [numR_ok hd] at h
    simp only [Prod.mk.injEq] at h
    obtain ⟨rfl, rfl, rfl⟩ := h
    obtain ⟨h1, _⟩ := dgs_ok hl ht h10 _ _ _ _ _ (by decide) hl0 hd
    have h2 : k ≤ S.size - a := by simpa using h1
    left
    refine ⟨rfl, by omega, by omega, ?_⟩
    rw [← dgs_dg0 hl ht h10 hl0 hd, take_add]
  · rw [numR_bad hd hc] at h
    simp only [Prod.mk.injEq] at h
    obtain ⟨rfl, rfl, rfl⟩ := h
    obtain ⟨_, _, h9⟩ := dgs_zero _ _ _ _ _ _ hd hc
    exact Or.inr ⟨hc, by omega, rfl, rfl⟩
theorem ag_int {S : ByteArray} {a n a' : Nat} {e' : Int} (hle : a ≤ S.size) (h : numR 10 1 S a 0 = (n, a', e')) : (-9223372036854775808 ≤ unf n ∧ unf n ≤ 9223372036854775807) ∧ ((e' = 0 ∧ a ≤ a' ∧ a' ≤ S.size ∧ laidOn (S.data.toList.take a) (dg (fol (unf n))) 0 = S.data.toList.take a') ∨ (e' ≠ 0 ∧ e' ≠ 13 ∧ a' = a)) := by
  have hlt := (numR_lt (last := 10) (top := 1) (by omega) (by omega) (by omega) (by omega) S a 0).1
  rw [h] at hlt
  refine ⟨unf_rng n hlt, ?_⟩
  rcases ag_num (by omega) (by omega) (by omega) (by omega) hle h with ⟨h1, h2, h3, h4⟩ | ⟨h1, h13, h2, _⟩
  · left
    refine ⟨h1, h2, h3, ?_⟩
    rw [fol_unf]
    simp [laidOn, h4]
  · exact Or.inr ⟨h1, h13, h2⟩
theorem ext_list (S : ByteArray) (a b : Nat) : (S.extract a (a + b)).data.toList = (S.data.toList.drop a).take b := by
  rw [Lib.extract_data]; congr 1; omega
theorem ag_raw {S : ByteArray} {a a' : Nat} {n e' : Int} {t : ByteArray} (hle : a ≤ S.size) (h : rawR n S a 0 = (t, a', e')) : a + t.size ≤ S.size ∧ ((e' = 0 ∧ a ≤ a' ∧ a' ≤ S.size ∧ laidOn (S.data.toList.take a) t.data.toList 0 = S.data.toList.take a') ∨ (e' ≠ 0 ∧ e' ≠ 13 ∧ a' = a)) := by
  unfold rawR at h
  rw [if_neg (by simp)] at h
  by_cases h1 : n < 0
  · rw [if_pos h1] at h
    simp only [Prod.mk.injEq] at h
    obtain ⟨rfl, rfl, rfl⟩ := h
    exact ⟨by show _ + 0 ≤ _; omega, Or.inr ⟨by omega, by omega, rfl⟩⟩
  · rw [if_neg h1] at h
    by_cases h2 : ((S.size - a : Nat) : Int) < n
    · rw [if_pos h2] at h
      simp only [Prod.mk.injEq] at h
      obtain ⟨rfl, rfl, rfl⟩ := h
      exact ⟨by show _ + 0 ≤ _; omega, Or.inr ⟨by omega, by omega, rfl⟩⟩
    · rw [if_neg h2] at h
      simp only [Prod.mk.injEq] at h
      obtain ⟨rfl, rfl, rfl⟩ := h
      refine ⟨by simp; omega, Or.inl ⟨rfl, by omega, by omega, ?_⟩⟩
      rw [ext_list]
      simp [laidOn, take_add]
theorem ag_text {S : ByteArray} {a a' : Nat} {m e' : Int} {t : ByteArray} (hle : a ≤ S.size) (hm : m ≤ 300) (h : textR m S a 0 = (t, a', e')) : a + t.size ≤ S.size ∧ ((e' = 0 ∧ a ≤ a' ∧ a' ≤ S.size ∧ upd (S.data.toList.take a) 0 (textL t) (textC t 300) = (S.data.toList.take a', 0)) ∨ (e' ≠ 0 ∧ e' ≠ 13 ∧ a' = a)) := by
  unfold textR at h
  rw [if_neg (by simp)] at h
  by_cases h1 : m < 0
  · rw [if_pos h1] at h
    simp only [Prod.mk.injEq] at h
    obtain ⟨rfl, rfl, rfl⟩ := h
    exact ⟨by show _ + 0 ≤ _; omega, Or.inr ⟨by omega, by omega, rfl⟩⟩
  · rw [if_neg h1] at h
    rcases hd : dgs 9 127 (S.data.toList.drop a) 0 0 with ⟨n, k, c⟩
    rw [hd] at h
    simp only [] at h
    by_cases hc : c = 0
    · subst hc
      obtain ⟨hk, _⟩ := dgs_ok (by omega) (by omega) (by omega) _ _ _ _ _ (by decide) (by omega) hd
      have hk2 : k ≤ S.size - a := by simpa using hk
      rw [if_neg (by simp)] at h
      by_cases h12 : m < n
      · rw [if_pos h12] at h
        simp only [Prod.mk.injEq] at h
        obtain ⟨rfl, rfl, rfl⟩ := h
        exact ⟨by show _ + 0 ≤ _; omega, Or.inr ⟨by omega, by omega, rfl⟩⟩
      · rw [if_neg h12] at h
        by_cases h11 : S.size - a - k < n
        · rw [if_pos h11] at h
          simp only [Prod.mk.injEq] at h
          obtain ⟨rfl, rfl, rfl⟩ := h
          exact ⟨by show _ + 0 ≤ _; omega, Or.inr ⟨by omega, by omega, rfl⟩⟩
        · rw [if_neg h11] at h
          simp only [Prod.mk.injEq] at h
          obtain ⟨rfl, rfl, rfl⟩ := h
          have hts : (S.extract (a + k) (a + k + n)).size = n := by simp; omega
          refine ⟨by rw [hts]; omega, Or.inl ⟨rfl, by omega, by omega, ?_⟩⟩
          have hcc : textC (S.extract (a + k) (a + k + n)) 300 = 0 := by unfold textC; rw [if_neg (by omega), if_neg (by rw [hts]; omega)]
          rw [hcc, upd_lay]
          have e1 : textL (S.extract (a + k) (a + k + n)) = (S.data.toList.drop a).take k ++ (S.data.toList.drop (a + k)).take n := by
            unfold textL
            rw [hts, ext_list, dgs_dg0 (by omega) (by omega) (by omega) (by omega) hd]
          rw [e1]
          rw [laidOn_zero, ← List.append_assoc, take_add, take_add]
    · rw [if_pos hc] at h
      simp only [Prod.mk.injEq] at h
      obtain ⟨rfl, rfl, rfl⟩ := h
      obtain ⟨_, _, h9⟩ := dgs_zero _ _ _ _ _ _ hd hc
      exact ⟨by show _ + 0 ≤ _; omega, Or.inr ⟨hc, by omega, rfl⟩⟩
end Go.Proofs.YteaagnlhkopgdaaGreatDoor
