import Derived.Test.YteaagnlhkopgdaaGreatDoorDM1
import Derived.Test.YteaagnlhkopgdaaGreatDoorRV9
import Derived.Test.YteaagnlhkopgdaaGreatDoorVREnc
import Derived.Test.YteaagnlhkopgdaaGreatDoorCCat
import Derived.Test.YteaagnlhkopgdaaGreatDoorDS0
import Derived.Test.YteaagnlhkopgdaaGreatDoorCCopy
import Derived.Deep.LoopGhost
import Derived.Test.YteaagnlhkopgdaaGreatDoorCName
import Derived.Test.YteaagnlhkopgdaaGreatDoorOrdv
set_option maxHeartbeats 4000000
set_option maxRecDepth 100000
namespace Go.Proofs.YteaagnlhkopgdaaGreatDoor.C
open Go.RowKit Go Go.Sort
theorem encR_le {vs : List Val} (h : (encR vs).2 = 0) : vs.length ≤ 8 := by
  unfold encR at h
  split at h
  · simp at h
  · omega
theorem rencode_row (vs : List Val) (ao : Option Addr) (c : Nat) (w : World) (h : SL w ao (vcl vs)) (hi : ∀ v ∈ vs, v.i64) (hl : vs.length ≤ 9223372036854775807) :
    Calls Tryz.prog 39 #[.slice ao vs.length c] w fun x w' => x = .returned (.tuple #[.string ⟨(encR vs).1.toArray⟩, .int .i64 (encR vs).2]) ∧ Tch (fun _ => False) w w' := by
  by_cases hv : vs = []
  · subst hv
    exact rencode_any [] ao 0 0 c w (fun h => absurd rfl h) (fun j hj => by simp at hj) hi hl
  · obtain ⟨g, o, e, ha⟩ := h.row hv
    exact rencode_any vs ao g o c w (fun _ => e) ha hi hl
theorem rrow18 (vs : List Val) (ao : Option Addr) (c : Nat) (w : World) (h : SL w ao (vcl vs)) (hi : ∀ v ∈ vs, v.i64) (hl : vs.length ≤ 9223372036854775807) :
    Calls Tryz.prog 34 #[.slice ao vs.length c] w fun x w' => x = .returned (.bool (decide (rtRow vs))) ∧ Tch (fun _ => False) w w' := by
  have q := rencode_row vs ao c w h hi hl
  obtain ⟨E, hE⟩ : ∃ E, E = (encR vs).2 := ⟨_, rfl⟩
  obtain ⟨s, hs⟩ : ∃ s : ByteArray, s = ⟨(encR vs).1.toArray⟩ := ⟨_, rfl⟩
  obtain ⟨d, hd⟩ : ∃ d, d = decide (rtRow vs) := ⟨_, rfl⟩
  rw [← hd]
  rw [← hE, ← hs] at q
  obtain ⟨n, hn⟩ : ∃ n, n = vs.length := ⟨_, rfl⟩
  have HD : Hid (d = true ↔ E = 0 ∧ 1 ≤ n ∧ n ≤ 8) := by
    show d = true ↔ _
    rw [hd, decide_eq_true_iff]
    unfold rtRow
    rw [← hE]
    constructor
    · rintro ⟨h1, h2⟩
      have h3 := List.length_pos_iff.2 h1
      have h4 := encR_le (vs := vs) (by rw [← hE]; exact h2)
      omega
    · rintro ⟨h1, h2, h3⟩
      exact ⟨List.length_pos_iff.1 (by omega), h1⟩
  rw [← hn] at q ⊢
  clear hn hE hs hd h hi hl
  go_enter Tryz.func34, Tryz.ntmps34
  go_wp2_with (go_at_call 39; refine q.mono ?_; rintro x w1 ⟨rfl, t1⟩)
  all_goals
    go_ret
    refine ⟨vret_bool ?_, t1⟩
    have h1 := HD.out
    rw [Bool.eq_iff_iff, h1]
    simp
    omega
end Go.Proofs.YteaagnlhkopgdaaGreatDoor.C
namespace Go.Proofs.YteaagnlhkopgdaaGreatDoor.C
open Go.RowKit Go Go.Sort
theorem cv_byte (n : Nat) (hn : n < 256) (w : World) : (convert 46 9 (.slice (some ⟨w.heap.size, 0, none⟩) 1 1)).run Tryz.prog (w.alloc (.cells #[.int .u8 (n : Int)] 5)) = .ok (.string ⟨#[UInt8.ofNat n]⟩) (w.alloc (.cells #[.int .u8 (n : Int)] 5)) := by
  have := run_convert_bytes_back (P := Tryz.prog) (w.alloc (.cells #[.int .u8 (n : Int)] 5)) 46 9 5 ⟨w.heap.size, 0, none⟩ 1 [UInt8.ofNat n] Tryz.underlying46 Tryz.underlying5 Tryz.underlying9 (fun j hj => by
    have e : j = 0 := by simpa using hj
    subst e
    rw [add_plain, blk_cell (alloc_new _ _)]
    simp [Nat.mod_eq_of_lt hn])
  exact this
theorem cv_any (n : Int) (w : World) : (convert 46 9 (.slice (some ⟨w.heap.size, 0, none⟩) 1 1)).run Tryz.prog (w.alloc (.cells #[.int .u8 (n % 256)] 5)) = .ok (.string ⟨#[UInt8.ofNat (n % 256).toNat]⟩) (w.alloc (.cells #[.int .u8 (n % 256)] 5)) := by
  have := cv_byte (n % 256).toNat (by omega) w
  rw [show (((n % 256).toNat : Nat) : Int) = n % 256 by omega] at this
  exact this
theorem rnumber6 (n : Int) (h0 : 0 ≤ n) (h1 : n ≤ 255) (w : World) : Calls Tryz.prog 18 #[.int .i64 n] w fun x w' => (∃ b, x = .returned (.string b) ∧ bl b = bytesL [n]) ∧ Tch (fun _ => False) w w' := by
  have hcv := cv_any n w
  have HB : Hid (bl ⟨#[UInt8.ofNat (n % 256).toNat]⟩ = bytesL [n]) := by
    show bl _ = _
    rw [show n % 256 = n by omega]; rfl
  clear h0 h1
  go_enter Tryz.func18, Tryz.ntmps18
  go_wp2
  go_ret
  exact ⟨⟨_, rfl, HB.out⟩, Tch.alloc _ _ _⟩
end Go.Proofs.YteaagnlhkopgdaaGreatDoor.C
namespace Go.Proofs.YteaagnlhkopgdaaGreatDoor.C
open Go.RowKit Go Go.Sort
theorem rdig6 (n : Int) (hn : -9223372036854775808 ≤ n ∧ n ≤ 9223372036854775807) (w : World) : Calls Tryz.prog 19 #[.int .i64 n] w fun x w' => x = .returned (.string (bB (dgI n))) ∧ Tch (fun _ => False) w w' := by
  have HCV := cv_any
  have HCV : Hid _ := HCV
  go_enter Tryz.func19, Tryz.ntmps19
  go_wp2_with fail
  go_loopw [3, 0] (fun s i wr => ∃ (S : ByteArray) (m : Int), s = .string S ∧ i = .int .i64 m ∧ S.size ≤ 9 ∧ Hid ((0 ≤ n → 0 ≤ m ∧ Dg n.toNat S m.toNat) ∧ (n < 0 → m = n ∧ S = ⟨#[]⟩)) ∧ Hid (-9223372036854775808 ≤ m ∧ m ≤ 9223372036854775807) ∧ Tch (fun _ => False) w wr) (fun _ i _ => (intOf i).toNat)
  case atStart => exact ⟨⟨#[]⟩, n, rfl, rfl, Nat.zero_le _, ⟨fun h => ⟨h, Dg.start (by omega)⟩, fun _ => ⟨rfl, rfl⟩⟩, hn, Tch.refl _ _⟩
  case round =>
    obtain ⟨S, m, rfl, rfl, hS, HD, HM, hT⟩ := hrel
    have hm := HM.out
    by_cases hlt : 127 < m
    · have h0 : 0 ≤ n := by
        refine Classical.byContradiction fun h => ?_
        have := (HD.out.2 (by omega)).1
        omega
      have hd := (HD.out.1 h0).2.more (by omega)
      have hcv := cv_byte (128 + m.toNat % 128) (by omega) wr
      rw [show ((128 + m.toNat % 128 : Nat) : Int) = 128 + m % 128 by omega] at hcv
      rw [show UInt8.ofNat (128 + m.toNat % 128) = UInt8.ofNat (m.toNat % 128 + 128) by rw [Nat.add_comm]] at hcv
      have HF : Hid (Dg n.toNat (S ++ ⟨#[UInt8.ofNat (m.toNat % 128 + 128)]⟩) (m.toNat / 128)) := hd
      obtain ⟨q, hq⟩ : ∃ q : Nat, q = m.toNat / 128 := ⟨_, rfl⟩
      have e3 : m.tdiv 128 = (q : Int) := by
        rw [hq, Int.tdiv_eq_ediv_of_nonneg (by omega)]; omega
      have e4 : IntKind.i64.wrap (m.tdiv 128) = (q : Int) := by rw [e3]; exact wrap_of (by omega) (by omega)
      have e5 : wrap64 (m.tdiv 128) = (q : Int) := by rw [e3]; unfold wrap64; omega
      rw [← hq] at HF
      obtain ⟨bb, hbb⟩ : ∃ bb, bb = UInt8.ofNat (m.toNat % 128 + 128) := ⟨_, rfl⟩
      rw [← hbb] at HF hcv
      have HQ : Hid (q = m.toNat / 128) := hq
      have H0 : Hid (0 ≤ n) := h0
      clear hd h0 hm hq e3 hbb
      go_wp2_with fail
      go_roundw
      case rel =>
        have h3 := HQ.out
        have h4 := HF.out.sz
        have hm := HM.out
        refine ⟨_, _, rfl, rfl, h4, ⟨fun _ => ⟨by omega, ?_⟩, fun h => absurd H0.out (by omega)⟩, by show _ ∧ _; omega, hT.allocR _⟩
        rw [Int.toNat_natCast]
        exact HF.out
      case measure =>
        have h3 := HQ.out
        simp only [intOf, Int.toNat_natCast]
        omega
    · have hcv := HCV.out m wr
      have HB : Hid (S ++ ⟨#[UInt8.ofNat (m % 256).toNat]⟩ = bB (dgI n)) := by
        show _ = _
        apply bB_of
        unfold dgI
        split
        · rename_i h
          obtain ⟨h1, h2⟩ := HD.out.1 h
          have := h2.done (by omega)
          rw [show (m % 256).toNat = m.toNat by omega]
          exact this
        · obtain ⟨h1, h2⟩ := HD.out.2 (by omega)
          rw [h1, h2]; rfl
      clear hm
      go_wp2_with fail
      go_ret
      exact ⟨by rw [← HB.out]; rfl, hT.allocR _⟩
theorem rtext_ok (s : ByteArray) (hs : s.size ≤ 140737488351232) (w : World) : Calls Tryz.prog 38 #[.string s] w fun x w' => x = .returned (.string (bB (textL s))) ∧ Tch (fun _ => False) w w' := by
  have q := rdig6 (s.size : Int) (by omega) w
  obtain ⟨b, hb⟩ : ∃ b, b = bB (dgI (s.size : Int)) := ⟨_, rfl⟩
  have hz : b.size ≤ 10 := by rw [hb, size_bB]; exact dgI_len _
  have HB : Hid (b ++ s = bB (textL s)) := by
    show _ = _
    apply bB_of
    rw [bl_app, hb, bl_bB, dgI_pos (by omega), textL_bl, Int.toNat_natCast]
  rw [← hb] at q
  clear hb
  go_enter Tryz.func38, Tryz.ntmps38
  go_wp2_with fail
  refine q.mono ?_
  rintro x w1 ⟨rfl, t1⟩
  clear q
  go_wp2_with fail
  go_ret
  exact ⟨by rw [← HB.out]; rfl, t1⟩
theorem rdig_ok (n : Int) (h0 : 0 ≤ n) (hn : n ≤ 9223372036854775807) (w : World) : Calls Tryz.prog 19 #[.int .i64 n] w fun x w' => x = .returned (.string (bB (dg n.toNat))) ∧ Tch (fun _ => False) w w' := by
  have := rdig6 n (by omega) w
  rw [dgI_pos h0] at this
  exact this
theorem rnum_ok (n : Int) (h0 : 0 ≤ n) (h1 : n ≤ 255) (w : World) : Calls Tryz.prog 18 #[.int .i64 n] w fun x w' => x = .returned (.string (bB (bytesL [n]))) ∧ Tch (fun _ => False) w w' :=
  (rnumber6 n h0 h1 w).mono fun _ _ ⟨⟨_, h1, h2⟩, t⟩ => ⟨by rw [h1, bB_of h2], t⟩
end Go.Proofs.YteaagnlhkopgdaaGreatDoor.C
namespace Go.Proofs.YteaagnlhkopgdaaGreatDoor.C
open Go.RowKit Go Go.Sort
def DB (w : World) (b : Nat) (p : Ds) : Prop := w.heap[b]? = some (.cells #[.string (bB p.1), .bool p.2] 99 (0, 0))
theorem DB.tch {S : Nat → Prop} {w w' : World} {b : Nat} {p : Ds} (h : DB w b p) (t : Tch S w w') (hS : ¬ S b) : DB w' b p := (t.block b (blk_lt h) hS).trans h
theorem DB.no {w w' : World} {b : Nat} {p : Ds} (h : DB w b p) (t : Tch (fun _ => False) w w') : DB w' b p := h.tch t (fun e => e)
theorem bB_ext (l : List UInt8) (i j : Nat) : (bB l).extract i j = bB ((l.drop i).take (j - i)) := by
  apply ByteArray.ext
  rw [ByteArray.data_extract]
  show l.toArray.extract i j = _
  rw [List.extract_toArray]
  rfl
theorem dslice_to (l : List UInt8) (m : Nat) (h : m ≤ l.length) (w : World) : (Instr.slice 9 (.string (bB l)) none (some (.int .i64 (m : Int))) none).run Tryz.prog w = .ok (.string (bB (l.take m))) w := by
  rw [run_slice_string_to_if (h := Tryz.underlying9), if_pos (by rw [size_bB]; omega)]
  rw [Int.toNat_natCast, bB_ext, List.drop_zero, Nat.sub_zero]
theorem dslice_from (l : List UInt8) (m : Nat) (h : m ≤ l.length) (w : World) : (Instr.slice 9 (.string (bB l)) (some (.int .i64 (m : Int))) none none).run Tryz.prog w = .ok (.string (bB (l.drop m))) w := by
  rw [run_slice_string_from_if (h := Tryz.underlying9), if_pos (by rw [size_bB]; omega)]
  rw [Int.toNat_natCast, bB_ext, size_bB]
  rw [List.take_of_length_le (by rw [List.length_drop]; omega)]
theorem bad_set {w : World} {b : Nat} {l : List UInt8} {d : Bool} (h : DB w b (l, d)) : DB (w.setCell ⟨b, 1, none⟩ (.bool true)) b (l, true) ∧ Tch (fun i => i = b) w (w.setCell ⟨b, 1, none⟩ (.bool true)) := by
  refine ⟨?_, Tch.setCell (fun i => i = b) w ⟨b, 1, none⟩ _ rfl⟩
  unfold DB at h ⊢
  rw [blk_set h]; rfl
theorem s_set {w : World} {b : Nat} {l m : List UInt8} {d : Bool} (h : DB w b (l, d)) : DB (w.setCell ⟨b, 0, none⟩ (.string (bB m))) b (m, d) ∧ Tch (fun i => i = b) w (w.setCell ⟨b, 0, none⟩ (.string (bB m))) := by
  refine ⟨?_, Tch.setCell (fun i => i = b) w ⟨b, 0, none⟩ _ rfl⟩
  unfold DB at h ⊢
  rw [blk_set h]; rfl
theorem draw_any (b : Nat) (n : Int) (p : Ds) (w : World) (h : DB w b p) :
    Calls Tryz.prog 65 #[.pointer (some ⟨b, 0, none⟩), .int .i64 n] w fun x w' => x = .returned (.string (bB (dRaw n p).1)) ∧ DB w' b (dRaw n p).2 ∧ Tch (fun i => i = b) w w' := by
  obtain ⟨l, bad⟩ := p
  obtain ⟨T, hT⟩ : ∃ T, T = bB l := ⟨_, rfl⟩
  have hz : T.size = l.length := by rw [hT]; exact size_bB l
  have h' : w.heap[b]? = some (.cells #[.string T, .bool bad] 99 (0, 0)) := by rw [hT]; exact h
  have c0 : w.cell? ⟨b, 0, none⟩ = some (.string T) := blk_cell h' 0
  have c1 : w.cell? ⟨b, 1, none⟩ = some (.bool bad) := blk_cell h' 1
  have f0 := blk_frozen h' 0
  have f1 := blk_frozen h' 1
  have HB : Hid (DB w b (l, bad)) := h
  have HTt : Hid (T = bB l) := hT
  clear h h' hT
  cases bad with
  | true =>
    have HR : Hid (dRaw n (l, true) = ([], (l, true))) := by show _ = _; unfold dRaw; rw [if_pos (.inl rfl)]
    clear hz
    go_enter Tryz.func65, Tryz.ntmps65
    go_wp2_with fail
    go_ret
    rw [HR.out]
    exact ⟨rfl, (bad_set HB.out).1, (bad_set HB.out).2⟩
  | false =>
    by_cases hn : n < 0
    · have HR : Hid (dRaw n (l, false) = ([], (l, true))) := by show _ = _; unfold dRaw; rw [if_pos (.inr (.inl hn))]
      clear hz
      go_enter Tryz.func65, Tryz.ntmps65
      go_wp2_with fail
      go_ret
      rw [HR.out]
      exact ⟨rfl, (bad_set HB.out).1, (bad_set HB.out).2⟩
    · by_cases hs : (l.length : Int) < n
      · have HR : Hid (dRaw n (l, false) = ([], (l, true))) := by show _ = _; unfold dRaw; rw [if_pos (.inr (.inr hs))]
        have hs' : (T.size : Int) < n := by omega
        have hs2 : n > (T.size : Int) := by omega
        clear hz hs
        go_enter Tryz.func65, Tryz.ntmps65
        go_wp2_with fail
        go_ret
        rw [HR.out]
        exact ⟨rfl, (bad_set HB.out).1, (bad_set HB.out).2⟩
      · obtain ⟨m, rfl⟩ : ∃ m : Nat, n = m := ⟨n.toNat, by omega⟩
        have hm : m ≤ l.length := by omega
        have HR : Hid (dRaw m (l, false) = (l.take m, (l.drop m, false))) := by
          show _ = _
          unfold dRaw
          rw [if_neg (by simp; omega), Int.toNat_natCast]
        have hs' : ¬ (T.size : Int) < (m : Int) := by omega
        have hs2 : ¬ (m : Int) > (T.size : Int) := by omega
        have s1 : ∀ w : World, (Instr.slice 9 (.string T) none (some (.int .i64 (m : Int))) none).run Tryz.prog w = .ok (.string (bB (l.take m))) w := fun w => by rw [HTt.out]; exact dslice_to l m hm w
        have s2 : ∀ w : World, (Instr.slice 9 (.string T) (some (.int .i64 (m : Int))) none none).run Tryz.prog w = .ok (.string (bB (l.drop m))) w := fun w => by rw [HTt.out]; exact dslice_from l m hm w
        clear hz hs hn hm
        go_enter Tryz.func65, Tryz.ntmps65
        go_wp2_with fail
        go_ret
        rw [HR.out]
        exact ⟨rfl, (s_set HB.out).1, (s_set HB.out).2⟩
theorem dbyte_any (b : Nat) (p : Ds) (w : World) (h : DB w b p) :
    Calls Tryz.prog 40 #[.pointer (some ⟨b, 0, none⟩)] w fun x w' => x = .returned (.int .i64 (dByte p).1) ∧ DB w' b (dByte p).2 ∧ Tch (fun i => i = b) w w' := by
  have q1 := draw_any b 1 p w h
  clear h
  by_cases hc : ∃ c r, p = (c :: r, false)
  · obtain ⟨c, r, rfl⟩ := hc
    have e : dRaw 1 (c :: r, false) = ([c], (r, false)) := by
      unfold dRaw
      rw [if_neg (by simp; omega)]
      rfl
    rw [e] at q1
    have hix : ∀ w : World, (Instr.index 9 (.string (bB [c])) (.int .i64 0)).run Tryz.prog w = .ok (.int .u8 (c.toNat : Int)) w := fun w => by
      have := xindex0 (bB [c]) 0 (by rw [size_bB]; simp) w
      simpa [bB] using this
    have hlt : (c.toNat : Int) < 256 := by have := c.toNat_lt; omega
    have h0 : 0 ≤ (c.toNat : Int) := by omega
    clear e
    go_enter Tryz.func40, Tryz.ntmps40
    go_wp2_with fail
    refine q1.mono ?_
    rintro x w1 ⟨rfl, h1, t1⟩
    have c1 : w1.cell? ⟨b, 1, none⟩ = some (.bool false) := blk_cell h1 1
    have H1 : Hid (DB w1 b (r, false)) := h1
    clear q1 h1
    have hem : (bB [c]).toList.isEmpty = false := nonempty_of_size (by rw [size_bB]; simp)
    generalize hS : bB [c] = S at hix hem ⊢
    clear hS c1
    go_wp2_with fail
    go_ret
    exact ⟨rfl, H1.out, t1⟩
  · have e : dRaw 1 p = ([], (p.1, true)) := by
      unfold dRaw
      rw [if_pos]
      obtain ⟨l, bad⟩ := p
      cases bad with
      | true => exact .inl rfl
      | false =>
        cases l with
        | nil => exact .inr (.inr (by simp))
        | cons c r => exact absurd ⟨c, r, rfl⟩ hc
    have e2 : dByte p = (0, (p.1, true)) := by
      obtain ⟨l, bad⟩ := p
      cases bad with
      | true => cases l <;> rfl
      | false =>
        cases l with
        | nil => rfl
        | cons c r => exact absurd ⟨c, r, rfl⟩ hc
    rw [e] at q1
    rw [e2]
    clear e e2 hc
    go_enter Tryz.func40, Tryz.ntmps40
    go_wp2_with fail
    refine q1.mono ?_
    rintro x w1 ⟨rfl, h1, t1⟩
    have hem : (bB []).toList.isEmpty = true := by rw [emp]; rfl
    generalize hS : bB [] = S at hem ⊢
    clear hS
    have H1 : Hid (DB w1 b (p.1, true)) := h1
    clear q1 h1
    go_wp2_with fail
    go_ret
    exact ⟨rfl, H1.out, t1⟩
end Go.Proofs.YteaagnlhkopgdaaGreatDoor.C
namespace Go.Proofs.YteaagnlhkopgdaaGreatDoor.C
open Go.RowKit Go Go.Sort
theorem dByte_lt (p : Ds) : (dByte p).1 ≤ 255 := by
  unfold dByte
  split
  · rename_i b r
    have := b.toNat_lt
    simp only
    omega
  · simp
theorem dByte_one {c : UInt8} {r : List UInt8} : dByte (c :: r, false) = (c.toNat, (r, false)) := rfl
theorem dByte_no {p : Ds} (hc : ¬ ∃ c r, p = (c :: r, false)) : dByte p = (0, (p.1, true)) ∧ dRaw 1 p = ([], (p.1, true)) := by
  obtain ⟨l, bad⟩ := p
  cases bad with
  | true => exact ⟨by cases l <;> rfl, by unfold dRaw; rw [if_pos (.inl rfl)]⟩
  | false =>
    cases l with
    | nil => exact ⟨rfl, by unfold dRaw; rw [if_pos (.inr (.inr (by simp)))]⟩
    | cons c r => exact absurd ⟨c, r, rfl⟩ hc
theorem dRaw_one {c : UInt8} {r : List UInt8} : dRaw 1 (c :: r, false) = ([c], (r, false)) := by
  unfold dRaw
  rw [if_neg (by simp; omega)]
  rfl
theorem dDg_step {i n : Nat} {p : Ds} (hi : i < 5) : dDg (5 - i) i n p = if (dByte p).2.2 = true then (0, (dByte p).2) else if (dByte p).1 < 128 then (n + (dByte p).1 % 128 * 128 ^ i, (dByte p).2) else dDg (5 - (i + 1)) (i + 1) (n + (dByte p).1 % 128 * 128 ^ i) (dByte p).2 := by
  rw [show 5 - i = (5 - (i + 1)) + 1 by omega]
  conv => lhs; unfold dDg
theorem p128_le {i : Nat} (h : i ≤ 4) : 128 ^ i ≤ 268435456 := by
  have := Nat.pow_le_pow_right (n := 128) (by omega) h
  simpa using this
theorem dnum_any (b : Nat) (p : Ds) (w : World) (h : DB w b p) :
    Calls Tryz.prog 41 #[.pointer (some ⟨b, 0, none⟩)] w fun x w' => x = .returned (.int .i64 (dNum p).1) ∧ DB w' b (dNum p).2 ∧ Tch (fun i => i = b) w w' := by
  have HJ : Hid (dDg (5 - 0) 0 0 p = dNum p ∧ DB w b p ∧ Tch (fun i => i = b) w w) := ⟨rfl, h, Tch.refl _ _⟩
  clear h
  go_enter Tryz.func41, Tryz.ntmps41
  go_wp2_with fail
  go_loopg [3, 4, 5] 5 (fun kx s3 s4 s5 wr => ∃ (i n P : Nat) (p' : Ds), s3 = .int .i64 n ∧ s4 = .int .i64 P ∧ s5 = .int .i64 i ∧ 5 - i ≤ kx ∧ i ≤ 5 ∧ n < P ∧ Hid (P = 128 ^ i) ∧ Hid (dDg (5 - i) i n p' = dNum p ∧ DB wr b p' ∧ Tch (fun j => j = b) w wr))
  case atStart => exact ⟨0, 0, 1, p, rfl, rfl, rfl, by omega, by omega, by omega, (by show 1 = 128 ^ 0; simp), HJ⟩
  case round =>
    rename World => wr
    obtain ⟨i, n, P, p', rfl, rfl, rfl, hkx, hil, hnP, HP, J⟩ := hrel
    by_cases hi : i < 5
    · have hi' : (i : Int) < 5 := by omega
      have hP7 : P ≤ 268435456 := by rw [HP.out]; exact p128_le (by omega)
      have q1 := draw_any b 1 p' wr J.out.2.1
      have hst := dDg_step (n := n) (p := p') hi
      rw [J.out.1] at hst
      have HT : Hid (Tch (fun j => j = b) w wr) := J.out.2.2
      by_cases hc : ∃ c r, p' = (c :: r, false)
      · obtain ⟨c, r, rfl⟩ := hc
        rw [dRaw_one] at q1
        rw [dByte_one, ← HP.out] at hst
        simp only [Bool.false_eq_true, if_false] at hst
        have hix : ∀ w : World, (Instr.index 9 (.string (bB [c])) (.int .i64 0)).run Tryz.prog w = .ok (.int .u8 (c.toNat : Int)) w := fun w => by
          have := xindex0 (bB [c]) 0 (by rw [size_bB]; simp) w
          simpa [bB] using this
        have hlt := c.toNat_lt
        obtain ⟨d, hd⟩ : ∃ d, d = c.toNat := ⟨_, rfl⟩
        rw [← hd] at hst hix hlt
        obtain ⟨m, hm⟩ : ∃ m, m = d % 128 * P := ⟨_, rfl⟩
        have hmP : m ≤ 127 * P := by rw [hm]; exact Nat.mul_le_mul_right _ (by omega)
        have hml : (d : Int) % 128 * (P : Int) = (m : Int) := by rw [hm]; norm_cast
        have hsh : IntKind.i64.wrap ((d : Int) % 128 * (P : Int)) = (m : Int) := by rw [hml, IntKind.wrap_i64]; omega
        have hsum : IntKind.i64.wrap ((n : Int) + (m : Int)) = (n : Int) + (m : Int) := by rw [IntKind.wrap_i64]; omega
        have hun : IntKind.i64.wrap (128 * (P : Int)) = 128 * (P : Int) := by rw [IntKind.wrap_i64]; omega
        have HW1 : Hid (wrap64 ((n : Int) + wrap64 (m : Int)) = ((n + m : Nat) : Int)) := by
          show _ = _
          have e1 : wrap64 (m : Int) = (m : Int) := by clear hml hsh hsum hun; unfold wrap64; omega
          rw [e1]
          clear hml hsh hsum hun e1
          unfold wrap64
          omega
        have HW2 : Hid (wrap64 (128 * (P : Int)) = ((128 * P : Nat) : Int)) := by
          show _ = _
          clear hml hsh hsum hun
          unfold wrap64
          omega
        rw [← hm] at hst
        have HST : Hid _ := hst
        have HP2 : Hid (128 * P = 128 ^ (i + 1)) := by show _ = _; rw [HP.out, Nat.pow_succ, Nat.mul_comm]
        have HM : Hid (m ≤ 127 * P ∧ n < P) := ⟨hmP, hnP⟩
        have h0 : 0 ≤ (d : Int) := by omega
        have h256 : (d : Int) < 256 := by omega
        generalize hS : bB [c] = S at q1 hix
        clear J hst hm HP hS hd hmP hnP
        go_wp2_with fail
        refine q1.mono ?_
        rintro x w2 ⟨rfl, h2, t2⟩
        have c1 : w2.cell? ⟨b, 1, none⟩ = some (.bool false) := blk_cell h2 1
        have HD2 : Hid (DB w2 b (r, false)) := h2
        have HT2 : Hid (Tch (fun j => j = b) w w2) := HT.out.trans' t2
        clear q1 h2 t2
        by_cases h128 : d < 128
        · have h128' : (d : Int) < 128 := by omega
          have HE : Hid (dNum p = (n + m, (r, false))) := by show _ = _; rw [HST.out, if_pos h128]
          clear HST
          go_wp2_with fail
          go_ret
          rw [HE.out]
          exact ⟨congrArg (fun z => Ending.returned (.int .i64 z)) HW1.out, HD2.out, HT2.out⟩
        · have h128' : ¬ (d : Int) < 128 := by omega
          have HJ2 : Hid (dDg (5 - (i + 1)) (i + 1) (n + m) (r, false) = dNum p ∧ DB w2 b (r, false) ∧ Tch (fun j => j = b) w w2) := ⟨by rw [HST.out, if_neg h128], HD2.out, HT2.out⟩
          clear HST
          go_wp2_with fail
          go_roundg (5 - (i + 1))
          case measure => omega
          case rel => exact ⟨i + 1, n + m, 128 * P, (r, false), congrArg (Value.int .i64) HW1.out, by first | exact congrArg (Value.int .i64) HW2.out | rfl, by first | rfl | (congr 1; omega), by omega, by omega, by have := HM.out; omega, HP2, HJ2⟩
      · obtain ⟨e1, e2⟩ := dByte_no hc
        rw [e2] at q1
        rw [e1] at hst
        simp only [if_true] at hst
        have HE : Hid (dNum p = (0, (p'.1, true))) := hst
        clear J hst e1 e2 hc HP
        go_wp2_with fail
        refine q1.mono ?_
        rintro x w2 ⟨rfl, h2, t2⟩
        have c1 : w2.cell? ⟨b, 1, none⟩ = some (.bool true) := blk_cell h2 1
        have HD2 : Hid (DB w2 b (p'.1, true)) := h2
        have HT2 : Hid (Tch (fun j => j = b) w w2) := HT.out.trans' t2
        clear q1 h2 t2
        go_wp2_with fail
        go_ret
        rw [HE.out]
        exact ⟨rfl, HD2.out, HT2.out⟩
    · have hi' : ¬ (i : Int) < 5 := by omega
      have e8 : 5 - i = 0 := by omega
      have HE : Hid (dNum p = (0, (p'.1, true))) := by show _ = _; rw [← J.out.1, e8]; rfl
      have HD : Hid (DB wr b (p'.1, p'.2)) := J.out.2.1
      have HT : Hid (Tch (fun j => j = b) w wr) := J.out.2.2
      have c1 : wr.cell? ⟨b, 1, none⟩ = some (.bool p'.2) := blk_cell J.out.2.1 1
      have f1 := blk_frozen J.out.2.1 1
      clear J HP
      go_wp2_with fail
      go_ret
      rw [HE.out]
      exact ⟨rfl, (bad_set HD.out).1, HT.out.trans' (bad_set HD.out).2⟩
end Go.Proofs.YteaagnlhkopgdaaGreatDoor.C
namespace Go.Proofs.YteaagnlhkopgdaaGreatDoor
open Go.RowKit
def sgn (n : Nat) : UInt8 := UInt8.ofNat (if n < 10 then 48 + n else 87 + n)
theorem grown_tch {N : Nat} {w w1 : World} {v : Value} (h : w.grownBy w1 v.ownBlock) (hg : ∀ g, v.ownBlock = some g → N ≤ g) : Tch (fun i => N ≤ i) w w1 :=
  ⟨h.os, h.tape, h.output, h.size, fun k hk hn => h.block k hk (fun e => hn (hg k e.symm))⟩
end Go.Proofs.YteaagnlhkopgdaaGreatDoor
