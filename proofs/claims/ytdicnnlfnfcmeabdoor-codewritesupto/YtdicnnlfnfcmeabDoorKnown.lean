/- The document's first example, as the laws ask it. -/
import Derived.Test.YtdicnnlfnfcmeabDoorWriter3
namespace Go.Proofs.YtdicnnlfnfcmeabDoor
open Go.RowKit

def kS : ByteArray := ⟨#[1, 255, 172, 2, 3, 2, 104, 105]⟩
theorem k_u1 : upd [] 0 (bytesL [1, 255]) (bytesC [1, 255]) = ([1, 255], 0) := by decide
theorem k_u2 : upd [1, 255] 0 (varL 300) (varC 300) = ([1, 255, 172, 2], 0) := by decide
theorem k_u3 : laidOn [1, 255, 172, 2] (dg (fol (-2))) 0 = [1, 255, 172, 2, 3] := by decide
theorem k_u4 : upd [1, 255, 172, 2, 3] 0 (textL ⟨#[104, 105]⟩) (textC ⟨#[104, 105]⟩ 4) = ([1, 255, 172, 2, 3, 2, 104, 105], 0) := by kernel_rfl
theorem k_r1 : byteR kS 0 0 = (1, 1, 0) := by kernel_rfl
theorem k_r2 : byteR kS 1 0 = (255, 2, 0) := by kernel_rfl
theorem k_r3 : numR 9 127 kS 2 0 = (300, 4, 0) := by kernel_rfl
theorem k_r4 : numR 10 1 kS 4 0 = (3, 5, 0) := by kernel_rfl
theorem k_r5 : textR 4 kS 5 0 = (⟨#[104, 105]⟩, 8, 0) := by kernel_rfl
theorem k_r6 : doneE 0 (kS.size - 8) = 0 := by kernel_rfl
theorem k_sz : kS.size = 8 := by kernel_rfl

theorem kw_byte (b g cap : Nat) (w : World) (h : WS w b [] 0) (hgb : g ≠ b) (hrow : ∃ cur fr, w.heap[g]? = some (.cells cur 3 fr)) (h0 : w.cell? ⟨g, 0, none⟩ = some (.int .i64 1)) (h1 : w.cell? ⟨g, 1, none⟩ = some (.int .i64 255)) :
    Calls Tryd.prog 16 #[.pointer (some ⟨b, 0, none⟩), .slice (some ⟨g, 0, none⟩) 2 cap] w fun x w' => x = .returned (.tuple #[]) ∧ WS w' b [1, 255] 0 ∧ Tch (WT b w) w w' := by
  have := wbyte_any b [] 0 [1, 255] g cap w h (by simp) hgb hrow (fun j hj => by
    rcases j with _ | _ | j
    · exact h0
    · exact h1
    · simp at hj; omega)
  rw [k_u1] at this; exact this
theorem kw_var (b : Nat) (w : World) (h : WS w b [1, 255] 0) :
    Calls Tryd.prog 17 #[.pointer (some ⟨b, 0, none⟩), .int .i64 300] w fun x w' => x = .returned (.tuple #[]) ∧ WS w' b [1, 255, 172, 2] 0 ∧ Tch (WT b w) w w' := by
  have := wvar_any b [1, 255] 0 300 w h (by decide) (by decide)
  rw [k_u2] at this; exact this
theorem kw_int (b : Nat) (w : World) (h : WS w b [1, 255, 172, 2] 0) :
    Calls Tryd.prog 18 #[.pointer (some ⟨b, 0, none⟩), .int .i64 (-2)] w fun x w' => x = .returned (.tuple #[]) ∧ WS w' b [1, 255, 172, 2, 3] 0 ∧ Tch (WT b w) w w' := by
  have := wint_any b [1, 255, 172, 2] 0 (-2) w h (by decide) (by decide) (by decide)
  rw [k_u3] at this; exact this
theorem kw_text (b : Nat) (w : World) (h : WS w b [1, 255, 172, 2, 3] 0) :
    Calls Tryd.prog 19 #[.pointer (some ⟨b, 0, none⟩), .string ⟨#[104, 105]⟩, .int .i64 4] w fun x w' => x = .returned (.tuple #[]) ∧ WS w' b [1, 255, 172, 2, 3, 2, 104, 105] 0 ∧ Tch (WT b w) w w' := by
  have := wtext_any b [1, 255, 172, 2, 3] 0 ⟨#[104, 105]⟩ 4 w h (by decide)
  rw [k_u4] at this; exact this
theorem kw_done (b : Nat) (w : World) (h : WS w b [1, 255, 172, 2, 3, 2, 104, 105] 0) (hg : HE w) :
    Calls Tryd.prog 9 #[.pointer (some ⟨b, 0, none⟩)] w fun x w' => x = .returned (.tuple #[.string kS, .int .i64 0]) ∧ Tch (fun _ => False) w w' := wdone_any b _ 0 w h hg
theorem kr_b1 (b : Nat) (w : World) (h : RD w b kS 0 0) : Calls Tryd.prog 20 #[.pointer (some ⟨b, 0, none⟩)] w fun x w' => x = .returned (.int .i64 1) ∧ RD w' b kS 1 0 ∧ Tch (fun i => i = b) w w' := by
  have := rbyte_any b kS 0 0 w h (by rw [k_sz]; decide)
  rw [k_r1] at this; exact this
theorem kr_b2 (b : Nat) (w : World) (h : RD w b kS 1 0) : Calls Tryd.prog 20 #[.pointer (some ⟨b, 0, none⟩)] w fun x w' => x = .returned (.int .i64 255) ∧ RD w' b kS 2 0 ∧ Tch (fun i => i = b) w w' := by
  have := rbyte_any b kS 1 0 w h (by rw [k_sz]; decide)
  rw [k_r2] at this; exact this
theorem kr_v (b : Nat) (w : World) (h : RD w b kS 2 0) : Calls Tryd.prog 21 #[.pointer (some ⟨b, 0, none⟩)] w fun x w' => x = .returned (.int .i64 300) ∧ RD w' b kS 4 0 ∧ Tch (fun i => i = b) w w' := by
  have := rvar_any b kS 2 0 w h (by rw [k_sz]; decide)
  rw [k_r3] at this; exact this
theorem kr_i (b : Nat) (w : World) (h : RD w b kS 4 0) : Calls Tryd.prog 22 #[.pointer (some ⟨b, 0, none⟩)] w fun x w' => x = .returned (.int .i64 (-2)) ∧ RD w' b kS 5 0 ∧ Tch (fun i => i = b) w w' := by
  have := rint_any b kS 4 0 w h (by rw [k_sz]; decide)
  rw [k_r4] at this; exact this
theorem kr_t (b : Nat) (w : World) (h : RD w b kS 5 0) : Calls Tryd.prog 23 #[.pointer (some ⟨b, 0, none⟩), .int .i64 4] w fun x w' => x = .returned (.string ⟨#[104, 105]⟩) ∧ RD w' b kS 8 0 ∧ Tch (fun i => i = b) w w' := by
  have := rtext_any b kS 5 0 4 w h (by rw [k_sz]; decide)
  rw [k_r5] at this; exact this
theorem kr_d (b : Nat) (w : World) (h : RD w b kS 8 0) (hg : HE w) : Calls Tryd.prog 14 #[.pointer (some ⟨b, 0, none⟩)] w fun x w' => x = .returned (.tuple #[.int .i64 0, .int .i64 8]) ∧ Tch (fun _ => False) w w' := by
  have := rdone_any b (kS.extract 8 kS.size) 8 0 w h.st hg
  rw [tail_size, k_r6] at this; exact this

theorem ge_mono {B b : Nat} {w w' : World} (t : Tch (WT b w) w w') (h : B ≤ b) : Tch (fun i => B ≤ i) w w' := (wt_le t).mono (fun i _ hi => by omega)
theorem eq_mono {B b : Nat} {w w' : World} (t : Tch (fun i => i = b) w w') (h : B ≤ b) : Tch (fun i => B ≤ i) w w' := t.mono (fun i _ hi => by omega)
theorem no_mono {S : Nat → Prop} {w w' : World} (t : Tch (fun _ => False) w w') : Tch S w w' := t.mono (fun _ _ h => h.elim)
theorem ge_new {w w' : World} (t : Tch (fun i => w.heap.size ≤ i) w w') : Tch (fun _ => False) w w' := t.mono (fun i hi h => by omega)

set_option maxHeartbeats 4000000 in
set_option maxRecDepth 100000 in
theorem known_any (w : World) (hg : HE w) :
    Calls Tryd.prog 5 #[] w fun x w' => x = .returned (.bool true) ∧ Tch (fun _ => False) w w' := by
  have hg0 : 0 < w.heap.size := cell_lt hg
  have HG : Hid (∀ W, Tch (fun i => w.heap.size ≤ i) w W → HE W) := fun W t => hg.tch t (by omega)
  clear hg
  go_enter Tryd.func5, Tryd.ntmps5
  go_wp2_with (go_at_call 6; refine (newWriter_any _).mono ?_; rintro x w1 ⟨rfl, h1, t1, z1⟩; have T1 := no_mono (S := fun i => w.heap.size ≤ i) t1)
  have t1' : Tch (fun _ => False) w1 (w1.alloc (.cells #[.int .i64 1, .int .i64 255] 3)) := Tch.alloc _ _ _
  refine (kw_byte w.heap.size (w.heap.size + 1) 2 _ (h1.tch t1' (fun _ _ _ h => h)) (by omega) ⟨_, _, by rw [← z1]; exact heap_alloc_new w1 _⟩ (by rw [← z1]; simp) (by rw [← z1]; simp)).mono ?_
  rintro x w2 ⟨rfl, h2, t2⟩
  have T2 := (T1.trans' (no_mono t1')).trans' (ge_mono t2 (Nat.le_refl _))
  clear t1 t1' t2 h1 z1 T1
  go_wp2_with fail
  refine (kw_var _ _ h2).mono ?_
  rintro x w3 ⟨rfl, h3, t3⟩
  have T3 := T2.trans' (ge_mono t3 (Nat.le_refl _))
  clear h2 T2 t3
  go_wp2_with fail
  refine (kw_int _ _ h3).mono ?_
  rintro x w4 ⟨rfl, h4, t4⟩
  have T4 := T3.trans' (ge_mono t4 (Nat.le_refl _))
  clear h3 T3 t4
  go_wp2_with fail
  refine (kw_text _ _ h4).mono ?_
  rintro x w5 ⟨rfl, h5, t5⟩
  have T5 := T4.trans' (ge_mono t5 (Nat.le_refl _))
  clear h4 T4 t5
  go_wp2_with fail
  refine (kw_done _ _ h5 (HG.out _ T5)).mono ?_
  rintro x w6 ⟨rfl, t6⟩
  have T6 := T5.trans' (no_mono t6)
  clear h5 T5 t6
  go_wp2_with fail
  refine (newReader_any _ _).mono ?_
  rintro x w7 ⟨rfl, h7, t7, _⟩
  have T7 := T6.trans' (no_mono t7)
  have hk := T6.size
  have hks : (kS.size : Int) = 8 := by rw [k_sz]; rfl
  obtain ⟨R, hR⟩ : ∃ R, R = w6.heap.size := ⟨_, rfl⟩
  rw [← hR] at h7 hk ⊢
  clear T6 t7 hR
  go_wp2_with fail
  refine (kr_b1 _ _ h7).mono ?_
  rintro x w8 ⟨rfl, h8, t8⟩
  have T8 := T7.trans' (eq_mono t8 hk)
  clear h7 T7 t8
  go_wp2_with fail
  refine (kr_b2 _ _ h8).mono ?_
  rintro x w9 ⟨rfl, h9, t9⟩
  have T9 := T8.trans' (eq_mono t9 hk)
  clear h8 T8 t9
  go_wp2_with fail
  refine (kr_v _ _ h9).mono ?_
  rintro x w10 ⟨rfl, h10, t10⟩
  have T10 := T9.trans' (eq_mono t10 hk)
  clear h9 T9 t10
  go_wp2_with fail
  refine (kr_i _ _ h10).mono ?_
  rintro x w11 ⟨rfl, h11, t11⟩
  have T11 := T10.trans' (eq_mono t11 hk)
  clear h10 T10 t11
  go_wp2_with fail
  refine (kr_t _ _ h11).mono ?_
  rintro x w12 ⟨rfl, h12, t12⟩
  have T12 := T11.trans' (eq_mono t12 hk)
  clear h11 T11 t12
  go_wp2_with fail
  refine (kr_d _ _ h12 (HG.out _ T12)).mono ?_
  rintro x w13 ⟨rfl, t13⟩
  have T13 := ge_new (T12.trans' (no_mono t13))
  clear h12 T12 t13
  go_wp2
  go_ret
  exact ⟨rfl, T13⟩
end Go.Proofs.YtdicnnlfnfcmeabDoor
