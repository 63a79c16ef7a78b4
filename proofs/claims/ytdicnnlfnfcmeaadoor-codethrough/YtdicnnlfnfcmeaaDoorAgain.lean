/- CodeAgain, walked. -/
import Derived.Test.YtdicnnlfnfcmeaaDoorPlainAgain
import Derived.Test.YtdicnnlfnfcmeaaDoorKnown
import Derived.Test.YtdicnnlfnfcmeaaDoorLift
namespace Go.Proofs.YtdicnnlfnfcmeaaDoor
open Go.RowKit

def pk (c n : Int) : Int := (if c < 0 then -(c + 1) else c) % n
theorem pick_any (c n : Int) (w : World) (h1 : -9223372036854775808 ≤ c) (h2 : c ≤ 9223372036854775807) (hn : 0 < n) (hn2 : n ≤ 9223372036854775807) :
    Calls Tryd.prog 9 #[.int .i64 c, .int .i64 n] w fun x w' => x = .returned (.int .i64 (pk c n)) ∧ w' = w := by
  have hnz : (n == 0) = false := by simp; omega
  by_cases h0 : c < 0
  · have hp : 0 ≤ -(c + 1) := by omega
    have HU : Hid (-((c + 1).tmod n) = pk c n) := by show _ = _; unfold pk; rw [if_pos h0, ← Int.neg_tmod, Int.tmod_eq_emod_of_nonneg hp]
    go_enter Tryd.func9, Tryd.ntmps9
    go_wp2
    go_ret
    exact ⟨ret_int HU.out, rfl⟩
  · have HU : Hid (c % n = pk c n) := by show _ = _; unfold pk; rw [if_neg h0]
    have hp : 0 ≤ c := by omega
    go_enter Tryd.func9, Tryd.ntmps9
    go_wp2
    go_ret
    exact ⟨ret_int HU.out, rfl⟩
theorem pk_rng (c n : Int) (hn : 0 < n) : 0 ≤ pk c n ∧ pk c n < n := by
  unfold pk; exact ⟨Int.emod_nonneg _ (by omega), Int.emod_lt_of_pos _ hn⟩

theorem left_q (b : Nat) (S : ByteArray) (a : Nat) (e : Int) (w : World) (h : RD w b S a e) :
    Calls Tryd.prog 8 #[.pointer (some ⟨b, 0, none⟩)] w fun x w' => x = .returned (.int .i64 ((S.size - a : Nat) : Int)) ∧ w' = w := by
  have := left_any b (S.extract a S.size) a e w h.st
  rw [tail_size] at this; exact this
theorem rdone_q (b : Nat) (S : ByteArray) (a : Nat) (e : Int) (w : World) (h : RD w b S a e) (hg : HE w) :
    Calls Tryd.prog 20 #[.pointer (some ⟨b, 0, none⟩)] w fun x w' => x = .returned (.tuple #[.int .i64 (doneE e (S.size - a)), .int .i64 a]) ∧ Tch (fun _ => False) w w' := by
  have := rdone_any b (S.extract a S.size) a e w h.st hg
  rw [tail_size] at this; exact this

/-- The cells of a list of numbers. -/
def Ints (w : World) (b off len : Nat) : Prop := ∀ i, i < len → ∃ x : Int, w.cell? ⟨b, off + i, none⟩ = some (.int .i64 x) ∧ -9223372036854775808 ≤ x ∧ x ≤ 9223372036854775807
theorem Ints.tch {S : Nat → Prop} {w w' : World} {b off len : Nat} (h : Ints w b off len) (t : Tch S w w') (hS : ¬ S b) : Ints w' b off len := by
  intro i hi
  obtain ⟨x, h0, hr⟩ := h i hi
  exact ⟨x, (t.cell (p := ⟨b, _, none⟩) (cell_lt h0) hS).trans h0, hr⟩

/-- The Reader at N, the Writer behind it: what was taken has been laid down. -/
structure AG (w : World) (N : Nat) (S : ByteArray) (a : Nat) : Prop where
  r : RD w N S a 0
  w : WS w (N + 1) (S.data.toList.take a) 0
theorem AG.tch {w w' : World} {N : Nat} {S : ByteArray} {a : Nat} (h : AG w N S a) (t : Tch (fun _ => False) w w') : AG w' N S a := ⟨h.r.tch t (fun h => h), h.w.tch t (fun _ _ _ h => h)⟩
/-- Behind a step: all went well and a' is reached, or something is wrong and nothing was taken. -/
def AGs (w : World) (N : Nat) (S : ByteArray) (a : Nat) : Prop := (∃ a', a' ≤ S.size ∧ AG w N S a') ∨ (∃ e : Int, e ≠ 0 ∧ e ≠ 13 ∧ RD w N S a e)
theorem take_extract (S : ByteArray) (a : Nat) : (⟨(S.data.toList.take a).toArray⟩ : ByteArray) = S.extract 0 a := by
  apply ByteArray.ext
  apply Array.toList_inj.1
  rw [Lib.extract_data]; simp

/-- Behind both calls of a step. -/
theorem ags_of {w w1 w2 : World} {N : Nat} {S : ByteArray} {a a' : Nat} {e' e2 : Int} {bs2 : List UInt8} (hr : RD w1 N S a' e') (hw : WS w2 (N + 1) bs2 e2) (t2 : Tch (WT (N + 1) w1) w1 w2)
    (h : (e' = 0 ∧ a ≤ a' ∧ a' ≤ S.size ∧ (bs2, e2) = (S.data.toList.take a', (0 : Int))) ∨ (e' ≠ 0 ∧ e' ≠ 13 ∧ a' = a)) (_hw : w.heap.size ≤ w1.heap.size) : AGs w2 N S a := by
  have hr2 := hr.tch (wt_le t2) (by omega)
  rcases h with ⟨rfl, h1, h2, h3⟩ | ⟨h1, h2, rfl⟩
  · simp only [Prod.mk.injEq] at h3
    obtain ⟨rfl, rfl⟩ := h3
    exact Or.inl ⟨a', h2, hr2, hw⟩
  · exact Or.inr ⟨e', h1, h2, hr2⟩

theorem ag_wst {w w1 : World} {N : Nat} {S : ByteArray} {a : Nat} (h : AG w N S a) (t : Tch (fun i => i = N) w w1) : WS w1 (N + 1) (S.data.toList.take a) 0 := h.w.tch t (fun i hi _ he => by omega)
theorem take_len (S : ByteArray) (a : Nat) : (S.data.toList.take a).length ≤ S.size := by simp; omega
theorem wt_ge {N : Nat} {w w' : World} (t : Tch (WT (N + 1) w) w w') : Tch (fun i => N ≤ i) w w' := (wt_le t).mono (fun i _ hi => by omega)

theorem ag_w0 {w w1 : World} {N v a' : Nat} {S : ByteArray} {a : Nat} {e' : Int} (h : AG w N S a) (hS : S.size + 4096 ≤ 140737488355328) (hv : byteR S a 0 = (v, a', e')) (hr : RD w1 N S a' e') (t : Tch (fun i => i = N) w w1) :
    Calls Tryd.prog 10 #[.pointer (some ⟨N + 1, 0, none⟩), .slice (some ⟨w1.heap.size, 0, none⟩) 1 1] (w1.alloc (.cells #[.int .i64 (v : Int)] 3)) fun x w2 => x = .returned (.tuple #[]) ∧ AGs w2 N S a ∧ Tch (fun i => N ≤ i) w1 w2 := by
  have hW := ag_wst h t
  have tA : Tch (fun _ => False) w1 (w1.alloc (.cells #[.int .i64 (v : Int)] 3)) := Tch.alloc _ _ _
  have hl := take_len S a
  have hlt := hW.lt
  obtain ⟨hv255, hcase⟩ := ag_byte hv
  refine (wbyte_any (N + 1) (S.data.toList.take a) 0 [(v : Int)] w1.heap.size 1 _ (hW.tch tA (fun _ _ _ h => h)) (by simp only [List.length_cons, List.length_nil]; omega) (by omega) ⟨_, _, heap_alloc_new w1 _⟩ (fun j hj => by
    rcases j with _ | j
    · simp
    · simp at hj)).mono ?_
  rintro x w2 ⟨rfl, h2, t2⟩
  refine ⟨rfl, ags_of (w := w1) (hr.tch tA (fun h => h)) h2 t2 ?_ tA.size, (no_mono tA).trans' (wt_ge t2)⟩
  rcases hcase with ⟨c1, c2, c3, c4⟩ | c
  · exact Or.inl ⟨c1, c2, c3, by rw [← c4]⟩
  · exact Or.inr c
theorem ag_w1 {w w1 : World} {N v a' : Nat} {S : ByteArray} {a : Nat} {e' : Int} (h : AG w N S a) (hS : S.size + 4096 ≤ 140737488355328) (hv : numR 9 127 S a 0 = (v, a', e')) (hr : RD w1 N S a' e') (t : Tch (fun i => i = N) w w1) :
    Calls Tryd.prog 12 #[.pointer (some ⟨N + 1, 0, none⟩), .int .i64 (v : Int)] w1 fun x w2 => x = .returned (.tuple #[]) ∧ AGs w2 N S a ∧ Tch (fun i => N ≤ i) w1 w2 := by
  have hW := ag_wst h t
  have hl := take_len S a
  obtain ⟨hv63, hcase⟩ := ag_var h.r.le hv
  refine (wvar_any (N + 1) (S.data.toList.take a) 0 v _ hW (by omega) (by omega)).mono ?_
  rintro x w2 ⟨rfl, h2, t2⟩
  refine ⟨rfl, ags_of (w := w1) hr h2 t2 ?_ (Nat.le_refl _), wt_ge t2⟩
  rcases hcase with ⟨c1, c2, c3, c4⟩ | c
  · exact Or.inl ⟨c1, c2, c3, by rw [← c4]⟩
  · exact Or.inr c
theorem ag_w2 {w w1 : World} {N v a' : Nat} {S : ByteArray} {a : Nat} {e' : Int} (h : AG w N S a) (hS : S.size + 4096 ≤ 140737488355328) (hv : numR 10 1 S a 0 = (v, a', e')) (hr : RD w1 N S a' e') (t : Tch (fun i => i = N) w w1) :
    Calls Tryd.prog 14 #[.pointer (some ⟨N + 1, 0, none⟩), .int .i64 (unf v)] w1 fun x w2 => x = .returned (.tuple #[]) ∧ AGs w2 N S a ∧ Tch (fun i => N ≤ i) w1 w2 := by
  have hW := ag_wst h t
  have hl := take_len S a
  obtain ⟨⟨hr1, hr2⟩, hcase⟩ := ag_int h.r.le hv
  refine (wint_any (N + 1) (S.data.toList.take a) 0 (unf v) _ hW hr1 hr2 (by omega)).mono ?_
  rintro x w2 ⟨rfl, h2, t2⟩
  refine ⟨rfl, ags_of (w := w1) hr h2 t2 ?_ (Nat.le_refl _), wt_ge t2⟩
  rcases hcase with ⟨c1, c2, c3, c4⟩ | c
  · exact Or.inl ⟨c1, c2, c3, by rw [← c4]⟩
  · exact Or.inr c
theorem ag_w3 {w w1 : World} {N a' : Nat} {v S : ByteArray} {a : Nat} {m e' : Int} (h : AG w N S a) (hS : S.size + 4096 ≤ 140737488355328) (hm : m ≤ 300) (hv : textR m S a 0 = (v, a', e')) (hr : RD w1 N S a' e') (t : Tch (fun i => i = N) w w1) :
    Calls Tryd.prog 17 #[.pointer (some ⟨N + 1, 0, none⟩), .string v, .int .i64 300] w1 fun x w2 => x = .returned (.tuple #[]) ∧ AGs w2 N S a ∧ Tch (fun i => N ≤ i) w1 w2 := by
  have hW := ag_wst h t
  have hl : (S.data.toList.take a).length ≤ a := by simp; omega
  obtain ⟨hsz, hcase⟩ := ag_text h.r.le hm hv
  refine (wtext_any (N + 1) (S.data.toList.take a) 0 v 300 _ hW (by omega)).mono ?_
  rintro x w2 ⟨rfl, h2, t2⟩
  refine ⟨rfl, ags_of (w := w1) hr h2 t2 ?_ (Nat.le_refl _), wt_ge t2⟩
  rcases hcase with ⟨c1, c2, c3, c4⟩ | c
  · exact Or.inl ⟨c1, c2, c3, by rw [← c4]⟩
  · exact Or.inr c
theorem ag_w4 {w w1 : World} {N a' : Nat} {v S : ByteArray} {a : Nat} {m e' : Int} (h : AG w N S a) (hS : S.size + 4096 ≤ 140737488355328) (hv : rawR m S a 0 = (v, a', e')) (hr : RD w1 N S a' e') (t : Tch (fun i => i = N) w w1) :
    Calls Tryd.prog 18 #[.pointer (some ⟨N + 1, 0, none⟩), .string v] w1 fun x w2 => x = .returned (.tuple #[]) ∧ AGs w2 N S a ∧ Tch (fun i => N ≤ i) w1 w2 := by
  have hW := ag_wst h t
  have hl : (S.data.toList.take a).length ≤ a := by simp; omega
  obtain ⟨hsz, hcase⟩ := ag_raw h.r.le hv
  refine (wraw_any (N + 1) (S.data.toList.take a) 0 v _ hW (by omega)).mono ?_
  rintro x w2 ⟨rfl, h2, t2⟩
  refine ⟨rfl, ags_of (w := w1) hr h2 t2 ?_ (Nat.le_refl _), wt_ge t2⟩
  rcases hcase with ⟨c1, c2, c3, c4⟩ | c
  · exact Or.inl ⟨c1, c2, c3, by rw [← c4]⟩
  · exact Or.inr c
end Go.Proofs.YtdicnnlfnfcmeaaDoor
