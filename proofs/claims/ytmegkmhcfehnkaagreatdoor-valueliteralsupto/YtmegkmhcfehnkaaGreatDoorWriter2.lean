import Derived.Test.YtmegkmhcfehnkaaGreatDoorWriter
/- The Writer of package code: its numbers, its texts. -/
namespace Go.Proofs.YtmegkmhcfehnkaaGreatDoor
open Go.RowKit

theorem laidOn_nil (bs : List UInt8) (e : Int) : laidOn bs [] e = bs := by unfold laidOn; split <;> simp
theorem laidOn_cat (bs a l : List UInt8) (e : Int) : laidOn (laidOn bs a e) l e = laidOn bs (a ++ l) e := by unfold laidOn; split <;> simp
theorem laidOn_len (bs l : List UInt8) (e : Int) : (laidOn bs l e).length ≤ bs.length + l.length := by unfold laidOn; split <;> simp

theorem one_cell {W : World} {g : Nat} {x : UInt8} (h : W.cell? ⟨g, 0, none⟩ = some (.int .u8 (x.toNat : Int))) : ∀ j u, (Lib.byteCells [x])[j]? = some u → W.cell? ((⟨g, 0, none⟩ : Addr).add j) = some u := by
  intro j u hj
  rcases j with _ | j
  · simp [Lib.byteCells] at hj; subst hj; simpa [Addr.add] using h
  · simp [Lib.byteCells] at hj

set_option maxHeartbeats 1000000 in
set_option maxRecDepth 100000 in
theorem wdigits_any (b : Nat) (bs : List UInt8) (e : Int) (n : Nat) (w : World) (h : WS w b bs e) (hn : n < 18446744073709551616) (hlen : bs.length + 10 ≤ 140737488355328) :
    Calls Tryz.prog 49 #[.pointer (some ⟨b, 0, none⟩), .int .u64 n] w fun x w' => x = .returned (.tuple #[]) ∧ WS w' b (laidOn bs (dg n) e) e ∧ Tch (WT b w) w w' := by
  go_enter Tryz.func49, Tryz.ntmps49
  go_wp2
  go_loopw [1] (fun v wr => ∃ (m f : Nat) (pre : List UInt8), v = .int .u64 m ∧ (m : Int) ≤ 18446744073709551615 ∧ f < 10 ∧ m < 128 ^ (f + 1) ∧ Hid (pre.length + (f + 1) ≤ 10) ∧ Hid (pre ++ dgf (f + 1) m = dg n) ∧ WS wr b (laidOn bs pre e) e ∧ Tch (WT b w) w wr) (fun v _ => (intOf v).toNat)
  case atStart => exact ⟨n, 9, [], rfl, by omega, by omega, Nat.lt_of_lt_of_le hn (by decide), by show _ ≤ _; simp, rfl, by rw [laidOn_nil]; exact h, Tch.refl _ _⟩
  case round =>
    obtain ⟨m, f, pre, rfl, hmn, hf, hm, HL, HP, hW, hT⟩ := hrel
    have hlt := hW.lt
    have hle := laidOn_len bs pre e
    by_cases hlt128 : m < 128
    · have hl : ¬ (128 : Int) ≤ m := by omega
      have HC : Hid (laidOn (laidOn bs pre e) [UInt8.ofNat m] e = laidOn bs (dg n) e) := by
        show _ = _
        rw [laidOn_cat, ← HP.out, dgf_last hlt128]
      have hmb : (m : Int) ≤ 255 := by omega
      have HT1 : Hid ((UInt8.ofNat m).toNat = m) := by show _ = _; simp; omega
      have HX : Hid (∀ W : World, WS W b (laidOn bs pre e) e → ∀ g, W.cell? ⟨g, 0, none⟩ = some (.int .u8 (m : Int)) → Calls Tryz.prog 37 #[.pointer (some ⟨b, 0, none⟩), .slice (some ⟨g, 0, none⟩) 1 1] W fun x w' => x = .returned (.tuple #[]) ∧ WS w' b (laidOn bs (dg n) e) e ∧ Tch (WT b W) W w') := fun W hW g hg => by
        have := lay_any b (laidOn bs pre e) [UInt8.ofNat m] e ⟨g, 0, none⟩ 1 1 W hW rfl (one_cell (by rw [HT1.out]; exact hg)) (by have := HL.out; simp; omega)
        rw [HC.out] at this; exact this
      go_wp2_with (go_at_call 37; refine (HX.out _ (hW.tch (Tch.alloc (fun _ => False) _ _) (fun _ _ _ h => h)) _ ?_).mono ?_; simp; rintro x w1 ⟨rfl, h1, t1⟩)
      go_end0
      exact ⟨rfl, h1, wt_trans hT (wt_alloc t1)⟩
    · have hl : (128 : Int) ≤ m := by omega
      obtain ⟨f, rfl⟩ : ∃ f', f = f' + 1 := by
        rcases f with _ | f
        · simp at hm; omega
        · exact ⟨f, rfl⟩
      have HM : Hid (m / 128 < 128 ^ (f + 1)) := by
        show _ < _
        rw [Nat.pow_succ] at hm
        exact Nat.div_lt_of_lt_mul (by rw [Nat.mul_comm]; exact hm)
      have HC : Hid (laidOn (laidOn bs pre e) [UInt8.ofNat (m % 128 + 128)] e = laidOn bs (pre ++ [UInt8.ofNat (m % 128 + 128)]) e) := by
        show _ = _
        rw [laidOn_cat]
      have HP2 : Hid ((pre ++ [UInt8.ofNat (m % 128 + 128)]) ++ dgf (f + 1) (m / 128) = dg n) := by
        show _ = _
        rw [← HP.out, dgf_more hlt128]; simp
      have HT1 : Hid ((UInt8.ofNat (m % 128 + 128)).toNat = m % 128 + 128) := by show _ = _; simp; omega
      have HX : Hid (∀ W : World, WS W b (laidOn bs pre e) e → ∀ g, W.cell? ⟨g, 0, none⟩ = some (.int .u8 ((m : Int) % 128 + 128)) → Calls Tryz.prog 37 #[.pointer (some ⟨b, 0, none⟩), .slice (some ⟨g, 0, none⟩) 1 1] W fun x w' => x = .returned (.tuple #[]) ∧ WS w' b (laidOn bs (pre ++ [UInt8.ofNat (m % 128 + 128)]) e) e ∧ Tch (WT b W) W w') := fun W hW g hg => by
        have := lay_any b (laidOn bs pre e) [UInt8.ofNat (m % 128 + 128)] e ⟨g, 0, none⟩ 1 1 W hW rfl (one_cell (by rw [HT1.out]; exact hg)) (by have := HL.out; simp; omega)
        rw [HC.out] at this; exact this
      go_wp2_with (go_at_call 37; refine (HX.out _ (hW.tch (Tch.alloc (fun _ => False) _ _) (fun _ _ _ h => h)) _ ?_).mono ?_; simp; rintro x w1 ⟨rfl, h1, t1⟩)
      go_roundw
      case rel => exact ⟨m / 128, f, _, by go_num, by omega, by omega, HM.out, by have := HL.out; show _ ≤ _; simp; omega, HP2, h1, wt_trans hT (wt_alloc t1)⟩
      case measure => simp [intOf]; omega

theorem upd_lay (bs l : List UInt8) (e : Int) : upd bs e l 0 = (laidOn bs l e, e) := by
  unfold upd laidOn
  by_cases he : e = 0
  · simp [he]
  · simp [he]
theorem upd_fail (bs l : List UInt8) (e c : Int) (hc : c ≠ 0) : upd bs e l c = (failB bs e, failE e c) := by
  unfold upd failB failE
  by_cases he : e = 0
  · simp [he, hc]
  · simp [he]
def varL (n : Int) : List UInt8 := dg n.toNat
def varC (n : Int) : Int := if n < 0 then 10 else 0

set_option maxHeartbeats 1000000 in
theorem wvar_any (b : Nat) (bs : List UInt8) (e n : Int) (w : World) (h : WS w b bs e) (hn : n ≤ 9223372036854775807) (hlen : bs.length + 10 ≤ 140737488355328) :
    Calls Tryz.prog 51 #[.pointer (some ⟨b, 0, none⟩), .int .i64 n] w fun x w' => x = .returned (.tuple #[]) ∧ WS w' b (upd bs e (varL n) (varC n)).1 (upd bs e (varL n) (varC n)).2 ∧ Tch (WT b w) w w' := by
  by_cases h0 : n < 0
  · have hf := wfail_any b bs e 10 w h (by omega)
    have HU : Hid (upd bs e (varL n) (varC n) = (failB bs e, failE e 10)) := by show _ = _; unfold varC; rw [if_pos h0]; exact upd_fail _ _ _ _ (by omega)
    rw [HU.out]
    go_enter Tryz.func51, Tryz.ntmps51
    go_wp2_with (go_at_call 36; refine hf.mono ?_; rintro x w1 ⟨rfl, h1, t1⟩)
    refine bodyPost_ret (results_none rfl _ _ _) rfl ?_
    exact ⟨rfl, h1, t1⟩
  · obtain ⟨m, rfl⟩ : ∃ m : Nat, n = m := ⟨n.toNat, by omega⟩
    have hd := wdigits_any b bs e m w h (by omega) hlen
    have HU : Hid (upd bs e (varL m) (varC m) = (laidOn bs (dg m) e, e)) := by show _ = _; unfold varC varL; rw [if_neg h0]; simp only [Int.toNat_natCast]; exact upd_lay _ _ _
    rw [HU.out]
    go_enter Tryz.func51, Tryz.ntmps51
    go_wp2_with (go_at_call 49; refine hd.mono ?_; rintro x w1 ⟨rfl, h1, t1⟩)
    go_end0
    exact ⟨rfl, h1, t1⟩

theorem fold_any (n : Int) (w : World) (h1 : -9223372036854775808 ≤ n) (h2 : n ≤ 9223372036854775807) :
    Calls Tryz.prog 50 #[.int .i64 n] w fun x w' => x = .returned (.int .u64 (fol n : Nat)) ∧ w' = w := by
  by_cases h0 : 0 ≤ n
  · have HU : Hid (2 * n = (fol n : Nat)) := by show _ = _; unfold fol; rw [if_pos h0]; omega
    go_enter Tryz.func50, Tryz.ntmps50
    go_wp2
    go_ret
    exact ⟨ret_int HU.out, rfl⟩
  · have HU : Hid (2 * (-(n + 1)) + 1 = (fol n : Nat)) := by show _ = _; unfold fol; rw [if_neg h0]; omega
    go_enter Tryz.func50, Tryz.ntmps50
    go_wp2
    go_ret
    exact ⟨ret_int HU.out, rfl⟩

theorem fol_lt (n : Int) (h1 : -9223372036854775808 ≤ n) (h2 : n ≤ 9223372036854775807) : fol n < 18446744073709551616 := by
  unfold fol; split <;> omega
theorem wint_any (b : Nat) (bs : List UInt8) (e n : Int) (w : World) (h : WS w b bs e) (h1 : -9223372036854775808 ≤ n) (h2 : n ≤ 9223372036854775807) (hlen : bs.length + 10 ≤ 140737488355328) :
    Calls Tryz.prog 38 #[.pointer (some ⟨b, 0, none⟩), .int .i64 n] w fun x w' => x = .returned (.tuple #[]) ∧ WS w' b (laidOn bs (dg (fol n)) e) e ∧ Tch (WT b w) w w' := by
  have hd := wdigits_any b bs e (fol n) w h (fol_lt n h1 h2) hlen
  have hf := fold_any n w h1 h2
  go_enter Tryz.func38, Tryz.ntmps38
  go_wp2_with (first | (go_at_call 50; refine hf.mono ?_; rintro x w1 ⟨rfl, rfl⟩) | (go_at_call 49; refine hd.mono ?_; rintro x w1 ⟨rfl, h1, t1⟩))
  go_end0
  exact ⟨rfl, h1, t1⟩

/-- The cells of a text that was turned into a slice of bytes. -/
theorem bytesWorld_cells (w : World) (s : ByteArray) : ∀ j u, (Lib.byteCells s.data.toList)[j]? = some u → (Lib.bytesWorld w 5 s).cell? ((⟨w.heap.size, 0, none⟩ : Addr).add j) = some u := by
  intro j u hj
  have hjl : j < s.data.toList.length := by
    have := (List.getElem?_eq_some_iff.1 hj).1
    simpa [Lib.byteCells] using this
  have hjs : j < s.size := by simpa using hjl
  have h1 := Lib.bytesWorld_cell w 5 s j hjs
  have e1 : ((⟨w.heap.size, 0, none⟩ : Addr).add j) = ⟨w.heap.size, j, none⟩ := by simp [Addr.add]; omega
  rw [e1, h1]
  simp only [Lib.byteCells, List.getElem?_map, List.getElem?_eq_getElem hjl, Option.map_some, Option.some.injEq] at hj
  rw [← hj, List.getD_eq_getElem?_getD, List.getElem?_eq_getElem hjl]
  rfl
theorem bytesWorld_tch (S : Nat → Prop) (w : World) (s : ByteArray) : Tch S w (Lib.bytesWorld w 5 s) :=
  ⟨rfl, rfl, rfl, by rw [Lib.bytesWorld_size]; omega, fun k hk _ => Lib.bytesWorld_at_old w 5 s k hk⟩
theorem wt_bytes {b : Nat} {w w1 : World} {s : ByteArray} (h : Tch (WT b (Lib.bytesWorld w 5 s)) (Lib.bytesWorld w 5 s) w1) : Tch (WT b w) w w1 := by
  refine (bytesWorld_tch (WT b w) w s).trans h (fun i hi ht => ?_)
  rcases ht with ht | ⟨ht, cur, fr, hh⟩
  · exact Or.inl ht
  · rw [Lib.bytesWorld_at_old w 5 s i hi] at hh
    exact Or.inr ⟨ht, cur, fr, hh⟩

theorem wraw_any (b : Nat) (bs : List UInt8) (e : Int) (s : ByteArray) (w : World) (h : WS w b bs e) (hlen : bs.length + s.size ≤ 140737488355328) :
    Calls Tryz.prog 52 #[.pointer (some ⟨b, 0, none⟩), .string s] w fun x w' => x = .returned (.tuple #[]) ∧ WS w' b (laidOn bs s.data.toList e) e ∧ Tch (WT b w) w w' := by
  have hcv := fun (W : World) => Lib.run_convert_string_bytes (P := Tryz.prog) W 9 64 5 s Tryz.underlying9 Tryz.underlying64 Tryz.underlying5
  have hl := lay_any b bs s.data.toList e ⟨w.heap.size, 0, none⟩ s.size (grownCap w s.size 0 5) (Lib.bytesWorld w 5 s) (h.tch (bytesWorld_tch (fun _ => False) w s) (fun _ _ _ h => h)) (by simp) (bytesWorld_cells w s) (by simpa using hlen)
  go_enter Tryz.func52, Tryz.ntmps52
  go_wp2_with (go_at_call 37; refine hl.mono ?_; rintro x w1 ⟨rfl, h1, t1⟩)
  go_end0
  exact ⟨rfl, h1, wt_bytes t1⟩

def textC (s : ByteArray) (most : Int) : Int := if most < 0 then 1 else if most < s.size then 12 else 0
def textL (s : ByteArray) : List UInt8 := dg s.size ++ s.data.toList
set_option maxHeartbeats 1000000 in
theorem wtext_any (b : Nat) (bs : List UInt8) (e : Int) (s : ByteArray) (most : Int) (w : World) (h : WS w b bs e) (hlen : bs.length + 10 + s.size ≤ 140737488355328) :
    Calls Tryz.prog 39 #[.pointer (some ⟨b, 0, none⟩), .string s, .int .i64 most] w fun x w' => x = .returned (.tuple #[]) ∧ WS w' b (upd bs e (textL s) (textC s most)).1 (upd bs e (textL s) (textC s most)).2 ∧ Tch (WT b w) w w' := by
  by_cases h0 : most < 0
  · have hf := wfail_any b bs e 1 w h (by omega)
    have HU : Hid (upd bs e (textL s) (textC s most) = (failB bs e, failE e 1)) := by show _ = _; unfold textC; rw [if_pos h0]; exact upd_fail _ _ _ _ (by omega)
    rw [HU.out]
    go_enter Tryz.func39, Tryz.ntmps39
    go_wp2_with (go_at_call 36; refine hf.mono ?_; rintro x w1 ⟨rfl, h1, t1⟩)
    go_end0
    exact ⟨rfl, h1, t1⟩
  · by_cases h12 : most < s.size
    · have hf := wfail_any b bs e 12 w h (by omega)
      have HU : Hid (upd bs e (textL s) (textC s most) = (failB bs e, failE e 12)) := by show _ = _; unfold textC; rw [if_neg h0, if_pos h12]; exact upd_fail _ _ _ _ (by omega)
      rw [HU.out]
      go_enter Tryz.func39, Tryz.ntmps39
      go_wp2_with (go_at_call 36; refine hf.mono ?_; rintro x w1 ⟨rfl, h1, t1⟩)
      go_end0
      exact ⟨rfl, h1, t1⟩
    · have hv := wvar_any b bs e s.size w h (by omega) (by omega)
      have HV : Hid (upd bs e (varL s.size) (varC s.size) = (laidOn bs (dg s.size) e, e)) := by show _ = _; unfold varC varL; rw [if_neg (by omega)]; simp only [Int.toNat_natCast]; exact upd_lay _ _ _
      rw [HV.out] at hv
      have hle := laidOn_len bs (dg s.size) e
      have hdl := dgf_len 10 s.size
      have HR : Hid (∀ W, WS W b (laidOn bs (dg s.size) e) e → Calls Tryz.prog 52 #[.pointer (some ⟨b, 0, none⟩), .string s] W fun x w' => x = .returned (.tuple #[]) ∧ WS w' b (laidOn bs (textL s) e) e ∧ Tch (WT b W) W w') := fun W hW => by
        have := wraw_any b (laidOn bs (dg s.size) e) e s W hW (by unfold dg at *; omega)
        rw [laidOn_cat] at this; exact this
      have HU : Hid (upd bs e (textL s) (textC s most) = (laidOn bs (textL s) e, e)) := by show _ = _; unfold textC; rw [if_neg h0, if_neg h12]; exact upd_lay _ _ _
      rw [HU.out]
      clear hle hdl
      go_enter Tryz.func39, Tryz.ntmps39
      go_wp2_with (first | (go_at_call 51; refine hv.mono ?_; rintro x w1 ⟨rfl, h1, t1⟩) | (go_at_call 52; refine (HR.out _ h1).mono ?_; rintro x w2 ⟨rfl, h2, t2⟩))
      go_end0
      exact ⟨rfl, h2, wt_trans t1 t2⟩
end Go.Proofs.YtmegkmhcfehnkaaGreatDoor
