import Derived.Test.YtmegkmhcfehnkaaGreatDoorWriter2
/- The Writer of package code: bytes, the end; a new Writer, a new Reader. -/
namespace Go.Proofs.YtmegkmhcfehnkaaGreatDoor
open Go.RowKit

theorem conv_row {w : World} {base : Nat} {v : Value} {bs : List UInt8} (h : w.ownsRow base 5 1 v bs.length (Lib.byteCells bs)) : (convert 64 9 v).run Tryz.prog w = .ok (.string ⟨bs.toArray⟩) w := by
  rcases h.2 with ⟨rfl, h2⟩ | ⟨g, cap, cur, rfl, _, hh, _, _, _, hx⟩
  · obtain rfl : bs = [] := List.eq_nil_of_length_eq_zero h2
    exact Lib.run_convert_nil_bytes w 64 9 5 0 Tryz.underlying64 Tryz.underlying5 Tryz.underlying9
  · refine run_convert_bytes_back w 64 9 5 ⟨g, 0, none⟩ cap bs Tryz.underlying64 Tryz.underlying5 Tryz.underlying9 ?_
    exact Lib.bytes_of_row hh (by simpa using hx)

theorem wdone_ok (b : Nat) (bs : List UInt8) (w : World) (h : WS w b bs 0) (hg : HE w) :
    Calls Tryz.prog 23 #[.pointer (some ⟨b, 0, none⟩)] w fun x w' => x = .returned (.tuple #[.string ⟨bs.toArray⟩, .int .i64 0]) ∧ Tch (fun _ => False) w w' := by
  obtain ⟨v, c0, hown⟩ := h.row
  have c1 := h.c1
  have hl := h.lt
  obtain ⟨ao, cp, hv⟩ := slice_of hown
  subst hv
  have HC : Hid (∀ W, Tch (fun _ => False) w W → (convert 64 9 (.slice ao bs.length cp)).run Tryz.prog W = .ok (.string ⟨bs.toArray⟩) W ∧ W.cell? ⟨b, 0, none⟩ = some (.slice ao bs.length cp)) := fun W t =>
    ⟨conv_row (ownsRow_tch hown t (fun _ _ _ h => h)), (t.cell (p := ⟨b, 0, none⟩) hl (fun h => h)).trans c0⟩
  go_enter Tryz.func23, Tryz.ntmps23
  go_wp2_with (go_at_call 40; refine (codeOf_any 0 _ hg).mono ?_; rintro x w1 ⟨rfl, hb⟩; obtain ⟨hcv, d0⟩ := HC.out w1 (Tch.of_below hb (Nat.le_refl _)); clear c0 c1)
  go_ret2
  exact ⟨rfl, Tch.of_below hb (Nat.le_refl _)⟩
theorem wdone_bad (b : Nat) (bs : List UInt8) (e : Int) (w : World) (h : WS w b bs e) (hg : HE w) (he : e ≠ 0) :
    Calls Tryz.prog 23 #[.pointer (some ⟨b, 0, none⟩)] w fun x w' => x = .returned (.tuple #[.string ⟨#[]⟩, .int .i64 e]) ∧ Tch (fun _ => False) w w' := by
  have c1 := h.c1
  have hn : (e != 0) = true := by simpa using he
  go_enter Tryz.func23, Tryz.ntmps23
  go_wp2_with (go_at_call 40; refine (codeOf_any e _ hg).mono ?_; rintro x w1 ⟨rfl, hb⟩)
  go_ret2
  exact ⟨rfl, Tch.of_below hb (Nat.le_refl _)⟩
theorem wdone_any (b : Nat) (bs : List UInt8) (e : Int) (w : World) (h : WS w b bs e) (hg : HE w) :
    Calls Tryz.prog 23 #[.pointer (some ⟨b, 0, none⟩)] w fun x w' => x = .returned (.tuple #[.string ⟨bs.toArray⟩, .int .i64 e]) ∧ Tch (fun _ => False) w w' := by
  by_cases he : e = 0
  · subst he; exact wdone_ok b bs w h hg
  · have := wdone_bad b bs e w h hg he
    rw [h.bad he]; exact this

theorem newWriter_any (w : World) :
    Calls Tryz.prog 20 #[] w fun x w' => x = .returned (.pointer (some ⟨w.heap.size, 0, none⟩)) ∧ WS w' w.heap.size [] 0 ∧ Tch (fun _ => False) w w' ∧ w'.heap.size = w.heap.size + 1 := by
  go_enter Tryz.func20, Tryz.ntmps20
  go_wp2
  go_ret
  exact ⟨rfl, ⟨⟨.slice none 0 0, by simp, rfl, Or.inl ⟨rfl, rfl⟩⟩, by simp [errV_zero], by simp, by simp, fun h => absurd rfl h⟩, Tch.alloc _ _ _, by simp⟩

theorem newReader_any (s : ByteArray) (w : World) :
    Calls Tryz.prog 24 #[.string s] w fun x w' => x = .returned (.pointer (some ⟨w.heap.size, 0, none⟩)) ∧ RD w' w.heap.size s 0 0 ∧ Tch (fun _ => False) w w' ∧ w'.heap.size = w.heap.size + 1 := by
  have e0 : s.extract 0 s.size = s := by simp
  go_enter Tryz.func24, Tryz.ntmps24
  go_wp2
  go_ret
  exact ⟨rfl, ⟨⟨by rw [e0]; simp, by simp, by simp [errV_zero], by simp, by simp, by simp⟩, Nat.zero_le _⟩, Tch.alloc _ _ _, by simp⟩

def byteOk (n : Int) : Bool := decide (0 ≤ n ∧ n ≤ 255)
def bytesC (l : List Int) : Int := if l.all byteOk then 0 else 10
def bytesL (l : List Int) : List UInt8 := l.map fun n => UInt8.ofNat n.toNat

set_option maxHeartbeats 1000000 in
set_option maxRecDepth 100000 in
theorem wbyte_any (b : Nat) (bs : List UInt8) (e : Int) (l : List Int) (g cap : Nat) (w : World) (h : WS w b bs e) (hlen : bs.length + l.length ≤ 140737488355328) (hgb : g ≠ b) (hrow : ∃ cur fr, w.heap[g]? = some (.cells cur 3 fr))
    (hcells : ∀ j (hj : j < l.length), w.cell? ⟨g, j, none⟩ = some (.int .i64 l[j])) :
    Calls Tryz.prog 21 #[.pointer (some ⟨b, 0, none⟩), .slice (some ⟨g, 0, none⟩) l.length cap] w fun x w' => x = .returned (.tuple #[]) ∧ WS w' b (upd bs e (bytesL l) (bytesC l)).1 (upd bs e (bytesL l) (bytesC l)).2 ∧ Tch (WT b w) w w' := by
  have hnot : ¬ WT b w g := by
    rintro (h1 | ⟨_, cur, fr, h1⟩)
    · exact hgb h1
    · obtain ⟨cur', fr', h2⟩ := hrow
      rw [h2] at h1; simp at h1
  have hgl : g < w.heap.size := by
    obtain ⟨cur', fr', h2⟩ := hrow
    rcases Nat.lt_or_ge g w.heap.size with h1 | h1
    · exact h1
    · rw [Array.getElem?_eq_none h1] at h2; cases h2
  have HG : Hid (∀ W, Tch (WT b w) w W → ∀ j (hj : j < l.length), W.cell? ⟨g, j, none⟩ = some (.int .i64 l[j])) := fun W t j hj => (t.cell (p := ⟨g, j, none⟩) hgl hnot).trans (hcells j hj)
  clear hcells hrow hnot
  go_enter Tryz.func21, Tryz.ntmps21
  go_wp2
  go_loopw [8] (fun i wr => ∃ k : Nat, i = .int .i64 k ∧ k ≤ l.length ∧ Hid ((l.take k).all byteOk = true) ∧ WS wr b (laidOn bs (bytesL (l.take k)) e) e ∧ Tch (WT b w) w wr) (fun i _ => l.length - (intOf i).toNat)
  case atStart => exact ⟨0, rfl, Nat.zero_le _, rfl, by simp only [List.take_zero, bytesL, List.map_nil, laidOn_nil]; exact h, Tch.refl _ _⟩
  case round =>
    obtain ⟨k, rfl, hk, HA, hW, hT⟩ := hrel
    have hlt := hW.lt
    by_cases hkl : k < l.length
    · have hkl' : (k : Int) < l.length := by omega
      have hc := HG.out wr hT k hkl
      obtain ⟨x, hx⟩ : ∃ x, x = l[k] := ⟨_, rfl⟩
      rw [← hx] at hc
      have HX : Hid (x = l[k]) := hx
      clear hx
      by_cases hb : byteOk x = true
      · have hb' : 0 ≤ x ∧ x ≤ 255 := by simpa [byteOk] using hb
        obtain ⟨hb0, hb1⟩ := hb'
        clear hb
        have HT1 : Hid (((UInt8.ofNat x.toNat).toNat : Int) = x) := by show _ = _; simp; omega
        have hle := laidOn_len bs (bytesL (l.take k)) e
        have hbl : (bytesL (l.take k)).length = k := by simp [bytesL]; omega
        have HTK : Hid (l.take (k + 1) = l.take k ++ [x]) := by show _ = _; rw [List.take_succ_eq_append_getElem hkl, HX.out]
        have HC : Hid (laidOn (laidOn bs (bytesL (l.take k)) e) [UInt8.ofNat x.toNat] e = laidOn bs (bytesL (l.take (k + 1))) e) := by
          show _ = _
          rw [laidOn_cat, HTK.out]; simp [bytesL]
        have HA2 : Hid ((l.take (k + 1)).all byteOk = true) := by
          show _ = _
          rw [HTK.out, List.all_append, HA.out]; simp [byteOk]; omega
        have HX2 : Hid (∀ W : World, WS W b (laidOn bs (bytesL (l.take k)) e) e → ∀ g, W.cell? ⟨g, 0, none⟩ = some (.int .u8 x) → Calls Tryz.prog 37 #[.pointer (some ⟨b, 0, none⟩), .slice (some ⟨g, 0, none⟩) 1 1] W fun x w' => x = .returned (.tuple #[]) ∧ WS w' b (laidOn bs (bytesL (l.take (k + 1))) e) e ∧ Tch (WT b W) W w') := fun W hW g hg => by
          have := lay_any b (laidOn bs (bytesL (l.take k)) e) [UInt8.ofNat x.toNat] e ⟨g, 0, none⟩ 1 1 W hW rfl (one_cell (by rw [HT1.out]; exact hg)) (by simp; omega)
          rw [HC.out] at this; exact this
        clear hle hbl
        go_wp2_with (go_at_call 37; refine (HX2.out _ (hW.tch (Tch.alloc (fun _ => False) _ _) (fun _ _ _ h => h)) _ ?_).mono ?_; simp; rintro x w1 ⟨rfl, h1, t1⟩)
        go_roundw
        case rel => exact ⟨k + 1, by go_num, by omega, HA2, h1, wt_trans hT (wt_alloc t1)⟩
        case measure => simp [intOf]; omega
      · have HC : Hid (bytesC l = 10) := by
          show _ = _
          unfold bytesC
          rw [if_neg]
          intro hall
          rw [List.all_eq_true] at hall
          exact hb (hall x (by rw [HX.out]; exact List.getElem_mem hkl))
        have HF : Hid ((failB (laidOn bs (bytesL (l.take k)) e) e, failE e 10) = upd bs e (bytesL l) (bytesC l)) := by
          show _ = _
          rw [HC.out, upd_fail _ _ _ _ (by omega)]
          unfold failB laidOn
          by_cases he : e = 0 <;> simp [he]
        have hf := wfail_any b (laidOn bs (bytesL (l.take k)) e) e 10 wr hW (by omega)
        have hb' : ¬ (0 ≤ x ∧ x ≤ 255) := by simpa [byteOk] using hb
        clear hb
        by_cases hx0 : x < 0
        · go_wp2_with (go_at_call 36; refine hf.mono ?_; rintro x w1 ⟨rfl, h1, t1⟩)
          refine bodyPost_ret (results_none rfl _ _ _) rfl ?_
          rw [← HF.out]
          exact ⟨rfl, h1, wt_trans hT t1⟩
        · have hx1 : 255 < x := by omega
          go_wp2_with (go_at_call 36; refine hf.mono ?_; rintro x w1 ⟨rfl, h1, t1⟩)
          refine bodyPost_ret (results_none rfl _ _ _) rfl ?_
          rw [← HF.out]
          exact ⟨rfl, h1, wt_trans hT t1⟩
    · have hkl' : ¬ (k : Int) < l.length := by omega
      have HU : Hid (upd bs e (bytesL l) (bytesC l) = (laidOn bs (bytesL (l.take k)) e, e)) := by
        show _ = _
        have hk2 : l.take k = l := List.take_of_length_le (by omega)
        have h1 := HA.out
        rw [hk2] at h1 ⊢
        unfold bytesC; rw [if_pos h1]; exact upd_lay _ _ _
      go_wp2
      go_end0
      rw [HU.out]
      exact ⟨rfl, hW, hT⟩
end Go.Proofs.YtmegkmhcfehnkaaGreatDoor
