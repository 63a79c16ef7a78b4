import Derived.Test.YtmegkmhcfehnkaaGreatDoorVDec
/- Bytes as rows, by the code: the whole. -/
namespace Go.Proofs.YtmegkmhcfehnkaaGreatDoor
open Go.RowKit

/-- What is read behind l, n values more. -/
def decGo (S : ByteArray) : Nat → Nat → Int → List Val → Option (List Val)
  | 0, a, e, l => if doneE e (S.size - a) = 0 then some l else none
  | n + 1, a, e, l => if (rdV S a e).1.2 = true then decGo S n (rdV S a e).2.1 (rdV S a e).2.2 (l ++ [(rdV S a e).1.1]) else none
def decR (S : ByteArray) : Option (List Val) := if 8 < (byteR S 0 0).1 then none else decGo S (byteR S 0 0).1 (byteR S 0 0).2.1 (byteR S 0 0).2.2 []
/-- A row of its own at block R: with no room behind it. -/
def RowNew (w : World) (R : Nat) (vs : List Val) : Prop := RowAt w R 0 vs ∧ ∃ cur, w.heap[R]? = some (.cells cur 23 (0, 0)) ∧ cur.size = vs.length * 3
/-- What Decode answers. -/
def DecOut (S : ByteArray) (w : World) (x : Ending) (w' : World) : Prop := match decR S with
  | none => x = .returned (.tuple #[.slice none 0 0, .int .i64 43])
  | some vs => ∃ R, w.heap.size ≤ R ∧ x = .returned (.tuple #[.slice (some ⟨R, 0, none⟩) vs.length vs.length, .int .i64 0]) ∧ RowNew w' R vs

theorem blk_lt {w : World} {b : Nat} {o : Obj} (h : w.heap[b]? = some o) : b < w.heap.size := (Array.getElem?_eq_some_iff.1 h).1
theorem blk_cell {w : World} {b : Nat} {cs : Array Value} {t : TypeId} {fr : Nat × Nat} (h : w.heap[b]? = some (.cells cs t fr)) (i : Nat) : w.cell? ⟨b, i, none⟩ = cs[i]? := by
  simp [World.cell?, h]
theorem blk_frozen {w : World} {b : Nat} {cs : Array Value} {t : TypeId} (h : w.heap[b]? = some (.cells cs t (0, 0))) (i : Nat) : w.frozen? ⟨b, i, none⟩ = false := by
  simp [World.frozen?, h]
theorem blk_set {w : World} {b i : Nat} {cs : Array Value} {t : TypeId} {fr : Nat × Nat} (h : w.heap[b]? = some (.cells cs t fr)) (v : Value) : (w.setCell ⟨b, i, none⟩ v).heap[b]? = some (.cells (cs.setIfInBounds i v) t fr) := by
  have hl := blk_lt h
  simp only [World.setCell]
  rw [Array.getElem?_modify]
  simp [h]
theorem info_val : (Tryz.prog.info? 23).map (fun i => (i.zero, i.size, i.bytes)) = some (some (.agg #[.int .i64 0, .int .i64 0, .string ⟨#[]⟩]), 3, 32) := by kernel_rfl
theorem make_row (n : Nat) (w : World) (hn : 32 * n ≤ 281474976710656) :
    (Instr.makeSlice 31 (.int .i64 (n : Int)) (.int .i64 (n : Int))).run Tryz.prog w = .ok (.slice (some ⟨w.heap.size, 0, none⟩) n n) (w.alloc (.cells (madeCells #[.int .i64 0, .int .i64 0, .string ⟨#[]⟩] (n * 3)) 23)) := by
  obtain ⟨i0, hi, hz0, hz1, hz2⟩ := info_parts info_val
  have h := run_make (P := Tryz.prog) w 31 23 i0 (.agg #[.int .i64 0, .int .i64 0, .string ⟨#[]⟩]) Tryz.underlying31 hi hz0 .i64 .i64 n n (by omega) (Int.le_refl _) (by rw [hz2]; omega) (by omega)
  simpa [hz1, Value.cells] using h

/-- A row of n places at block R, of which those of l are filled. -/
structure RO (w : World) (R n : Nat) (l : List Val) : Prop where
  blk : ∃ cur, w.heap[R]? = some (.cells cur 23 (0, 0)) ∧ cur.size = n * 3
  got : RowAt w R 0 l
theorem RO.tch {S : Nat → Prop} {w w' : World} {R n : Nat} {l : List Val} (h : RO w R n l) (t : Tch S w w') (hs : ¬ S R) : RO w' R n l := by
  obtain ⟨cur, h1, h2⟩ := h.blk
  exact ⟨⟨cur, (t.block R (blk_lt h1) hs).trans h1, h2⟩, h.got.tch t (fun _ => hs)⟩
theorem RO.step {w : World} {R n : Nat} {l : List Val} (h : RO w R n l) (hk : l.length < n) (v : Val) : RO (((w.setCell ⟨R, l.length * 3, none⟩ (.int .i64 v.k)).setCell ⟨R, l.length * 3 + 1, none⟩ (.int .i64 v.n)).setCell ⟨R, l.length * 3 + 2, none⟩ (.string v.s)) R n (l ++ [v]) := by
  obtain ⟨cur, h1, h2⟩ := h.blk
  have h3 := blk_set (blk_set (blk_set h1 (i := l.length * 3) (.int .i64 v.k)) (i := l.length * 3 + 1) (.int .i64 v.n)) (i := l.length * 3 + 2) (.string v.s)
  refine ⟨⟨_, h3, by simp [h2]⟩, fun i hi => ?_⟩
  rw [blk_cell h3, blk_cell h3, blk_cell h3]
  simp only [Nat.zero_add]
  rw [List.length_append, List.length_singleton] at hi
  rcases Nat.lt_or_ge i l.length with hik | hik
  · obtain ⟨g1, g2, g3⟩ := h.got i hik
    rw [blk_cell h1] at g1 g2 g3
    simp only [Nat.zero_add] at g1 g2 g3
    rw [List.getElem_append_left hik]
    refine ⟨?_, ?_, ?_⟩
    · rw [Array.getElem?_setIfInBounds_ne (by omega), Array.getElem?_setIfInBounds_ne (by omega), Array.getElem?_setIfInBounds_ne (by omega)]; exact g1
    · rw [Array.getElem?_setIfInBounds_ne (by omega), Array.getElem?_setIfInBounds_ne (by omega), Array.getElem?_setIfInBounds_ne (by omega)]; exact g2
    · rw [Array.getElem?_setIfInBounds_ne (by omega), Array.getElem?_setIfInBounds_ne (by omega), Array.getElem?_setIfInBounds_ne (by omega)]; exact g3
  · obtain rfl : i = l.length := by omega
    rw [List.getElem_append_right (Nat.le_refl _)]
    simp only [Nat.sub_self, List.getElem_cons_zero]
    refine ⟨?_, ?_, ?_⟩
    · rw [Array.getElem?_setIfInBounds_ne (by omega), Array.getElem?_setIfInBounds_ne (by omega), Array.getElem?_setIfInBounds_self_of_lt (by omega)]
    · rw [Array.getElem?_setIfInBounds_ne (by omega), Array.getElem?_setIfInBounds_self_of_lt (by simp; omega)]
    · rw [Array.getElem?_setIfInBounds_self_of_lt (by simp; omega)]
theorem RO.room {w : World} {R n : Nat} {l : List Val} (h : RO w R n l) (hk : l.length < n) : (∃ y, w.cell? ⟨R, l.length * 3, none⟩ = some y) ∧ (∃ y, w.cell? ⟨R, l.length * 3 + 1, none⟩ = some y) ∧ (∃ y, w.cell? ⟨R, l.length * 3 + 2, none⟩ = some y) ∧ ∀ j, w.frozen? ⟨R, j, none⟩ = false := by
  obtain ⟨cur, h1, h2⟩ := h.blk
  exact ⟨⟨cur[l.length * 3]'(by omega), by rw [blk_cell h1]; exact Array.getElem?_eq_getElem _⟩, ⟨cur[l.length * 3 + 1]'(by omega), by rw [blk_cell h1]; exact Array.getElem?_eq_getElem _⟩, ⟨cur[l.length * 3 + 2]'(by omega), by rw [blk_cell h1]; exact Array.getElem?_eq_getElem _⟩, fun j => blk_frozen h1 j⟩

set_option maxHeartbeats 2000000 in
set_option maxRecDepth 100000 in
theorem decode_any (S : ByteArray) (w : World) (hg : HE w) (hS : S.size ≤ 281474976710656) :
    Calls Tryz.prog 10 #[.string S] w fun x w' => DecOut S w x w' ∧ Tch (fun _ => False) w w' := by
  have hel : 1 < w.heap.size := cell_lt hg
  have HG : Hid (∀ W, Tch (fun i => w.heap.size ≤ i) w W → HE W) := fun W t => hg.tch t (by omega)
  have hm := byteR_lt S 0 0
  clear hg hel
  go_enter Tryz.func10, Tryz.ntmps10
  go_wp2_with (go_at_call 24; refine (newReader_any _ _).mono ?_; rintro x w1 ⟨rfl, h1, t1, z1⟩; have T1 := no_mono (S := fun i => w.heap.size ≤ i) t1)
  refine (rbyte_any _ S 0 0 _ h1 hS).mono ?_
  rintro x w2 ⟨rfl, h2, t2⟩
  have T2 := T1.trans' (eq_mono t2 (Nat.le_refl _))
  clear T1 t1 t2 h1
  obtain ⟨n, a1, e1, hE⟩ : ∃ n a1 e1, byteR S 0 0 = (n, a1, e1) := ⟨_, _, _, rfl⟩
  have HD : Hid (decR S = if 8 < n then none else decGo S n a1 e1 []) := by show _ = _; unfold decR; rw [hE]
  rw [hE] at h2 hm ⊢
  simp only at h2 hm ⊢
  clear hE
  by_cases h8 : 8 < n
  · have h8' : (8 : Int) < n := by omega
    have HD2 : Hid (decR S = none) := by show _ = _; rw [HD.out, if_pos h8]
    go_wp2_with fail
    go_ret2
    refine ⟨?_, ge_new T2⟩
    unfold DecOut
    rw [HD2.out]
    rfl
  · have h8' : ¬ (8 : Int) < n := by omega
    have HD2 : Hid (decR S = decGo S n a1 e1 []) := by show _ = _; rw [HD.out, if_neg h8]
    clear HD hm
    have hmk := make_row n w2 (by omega)
    obtain ⟨w3, hw3⟩ : ∃ w3, w3 = w2.alloc (.cells (madeCells #[.int .i64 0, .int .i64 0, .string ⟨#[]⟩] (n * 3)) 23) := ⟨_, rfl⟩
    obtain ⟨R, hR⟩ : ∃ R, R = w2.heap.size := ⟨_, rfl⟩
    rw [← hw3, ← hR] at hmk
    have t3 : Tch (fun _ => False) w2 w3 := by rw [hw3]; exact Tch.alloc _ _ _
    have hb2 : w.heap.size < w2.heap.size := cell_lt h2.st.c0
    have F0 : RO w3 R n [] := ⟨⟨_, by rw [hw3, hR]; exact heap_new w2 _, size_madeCells _ _⟩, fun i hi => by simp at hi⟩
    have T3 := T2.trans' (no_mono t3)
    have h3 := h2.tch t3 (fun h => h)
    have hRw : w.heap.size < R := by omega
    have hR3 : R < w3.heap.size := by rw [hw3, hR]; simp
    clear hw3 hR t3 h2 T2 hb2
    go_wp2_with fail
    go_loopw [22] (fun i wr => ∃ (k a e : _) (l : List Val), i = .int .i64 (k : Nat) ∧ k ≤ n ∧ l.length = k ∧ Hid (decR S = decGo S (n - k) a e l) ∧ RO wr R n l ∧ RD wr w.heap.size S a e ∧ Tch (fun i => w.heap.size ≤ i) w wr) (fun i _ => n - (intOf i).toNat)
    case atStart => exact ⟨0, a1, e1, [], rfl, Nat.zero_le _, rfl, HD2, F0, h3, T3⟩
    case round =>
      obtain ⟨k, a, e, l, rfl, hk, hl, HA, hO, hD, hT⟩ := hrel
      clear F0 h3 T3 HD2
      by_cases hlt : k < n
      · have hlt' : (k : Int) < n := by omega
        have HV : Hid (decR S = if (rdV S a e).1.2 = true then decGo S (n - (k + 1)) (rdV S a e).2.1 (rdV S a e).2.2 (l ++ [(rdV S a e).1.1]) else none) := by
          show _ = _
          rw [HA.out, show n - k = (n - (k + 1)) + 1 by omega]; rfl
        have hRr : R < wr.heap.size := by obtain ⟨cur, h1, _⟩ := hO.blk; exact blk_lt h1
        go_wp2_with fail
        refine (read_any _ S a e _ hD hS).mono ?_
        rintro x w4 ⟨rfl, h4, t4⟩
        have hO4 := hO.tch t4 (by omega)
        have T4 := hT.trans' (eq_mono t4 (Nat.le_refl _))
        obtain ⟨⟨v, ok⟩, a', e', hE⟩ : ∃ (p : Val × Bool) (a' : Nat) (e' : Int), rdV S a e = (p, a', e') := ⟨_, _, _, rfl⟩
        rw [hE] at h4 HV ⊢
        simp only at h4 HV ⊢
        clear hE hO hD hT t4
        have hv4 : R < w4.heap.size := by obtain ⟨cur, h1, _⟩ := hO4.blk; exact blk_lt h1
        cases ok with
        | true =>
          have HA5 : Hid (decR S = decGo S (n - (k + 1)) a' e' (l ++ [v])) := by
            show _ = _
            rw [HV.out]; rfl
          obtain ⟨⟨y0, g0⟩, ⟨y1, g1⟩, ⟨y2, g2⟩, hfr⟩ := hO4.room (by omega)
          have hO5 := hO4.step (by omega) v
          rw [hl] at g0 g1 g2 hO5
          have f0 := hfr (k * 3); have f1 := hfr (k * 3 + 1); have f2 := hfr (k * 3 + 2)
          have t5 : Tch (fun i => i = R) w4 (((w4.setCell ⟨R, k * 3, none⟩ (.int .i64 v.k)).setCell ⟨R, k * 3 + 1, none⟩ (.int .i64 v.n)).setCell ⟨R, k * 3 + 2, none⟩ (.string v.s)) :=
            ((Tch.setCell (fun i => i = R) w4 ⟨R, k * 3, none⟩ _ rfl).setCellR ⟨R, k * 3 + 1, none⟩ _ rfl).setCellR ⟨R, k * 3 + 2, none⟩ _ rfl
          have HB : Hid (∀ o : Obj, RO ((((w4.setCell ⟨R, k * 3, none⟩ (.int .i64 v.k)).setCell ⟨R, k * 3 + 1, none⟩ (.int .i64 v.n)).setCell ⟨R, k * 3 + 2, none⟩ (.string v.s)).alloc o) R n (l ++ [v]) ∧ RD ((((w4.setCell ⟨R, k * 3, none⟩ (.int .i64 v.k)).setCell ⟨R, k * 3 + 1, none⟩ (.int .i64 v.n)).setCell ⟨R, k * 3 + 2, none⟩ (.string v.s)).alloc o) w.heap.size S a' e' ∧ Tch (fun i => w.heap.size ≤ i) w ((((w4.setCell ⟨R, k * 3, none⟩ (.int .i64 v.k)).setCell ⟨R, k * 3 + 1, none⟩ (.int .i64 v.n)).setCell ⟨R, k * 3 + 2, none⟩ (.string v.s)).alloc o)) := fun o =>
            ⟨hO5.tch (Tch.alloc (fun _ => False) _ o) (fun h => h), (h4.tch t5 (by omega)).tch (Tch.alloc (fun _ => False) _ o) (fun h => h), (T4.trans' (t5.mono (fun i _ hi => by omega))).allocR o⟩
          clear hO4 h4 T4 t5 HA HV hO5 hfr
          go_wp2_with fail
          go_roundw
          case rel =>
            obtain ⟨q1, q2, q3⟩ := HB.out (.cells #[.int .i64 v.k, .int .i64 v.n, .string v.s] 23)
            exact ⟨k + 1, a', e', l ++ [v], by go_num, by omega, by simp [hl], HA5, q1, q2, q3⟩
          case measure => simp [intOf]; omega
        | false =>
          have HA5 : Hid (decR S = none) := by
            show _ = _
            rw [HV.out]; rfl
          clear HA HV
          go_wp2_with fail
          go_ret2
          refine ⟨?_, ge_new (T4.allocR _)⟩
          unfold DecOut
          rw [HA5.out]
          rfl
      · have hlt' : ¬ (k : Int) < n := by omega
        have hkn : k = n := by omega
        subst hkn
        have HV : Hid (decR S = if doneE e (S.size - a) = 0 then some l else none) := by
          show _ = _
          rw [HA.out, Nat.sub_self]; rfl
        have hgE := HG.out wr hT
        have hdn := rdone_any _ (S.extract a S.size) a e wr hD.st hgE
        rw [tail_size] at hdn
        have hRr : R < wr.heap.size := by obtain ⟨cur, h1, _⟩ := hO.blk; exact blk_lt h1
        go_wp2_with fail
        refine hdn.mono ?_
        rintro x w4 ⟨rfl, t4⟩
        have hO4 := hO.tch t4 (fun h => h)
        have T4 := hT.trans' (no_mono t4)
        obtain ⟨q, hq⟩ : ∃ q, q = doneE e (S.size - a) := ⟨_, rfl⟩
        rw [← hq] at HV ⊢
        clear hq hdn hO hT t4 hgE hD
        by_cases hq0 : q = 0
        · subst hq0
          go_wp2_with fail
          go_ret2
          refine ⟨?_, ge_new T4⟩
          unfold DecOut
          rw [HV.out]
          simp only [if_true]
          refine ⟨R, by omega, by rw [hl]; rfl, hO4.got, ?_⟩
          rw [hl]; exact hO4.blk
        · have hq1 : (q != 0) = true := by simpa using hq0
          have HV2 : Hid (decR S = none) := by show _ = _; rw [HV.out, if_neg hq0]
          clear hq0 HV
          go_wp2_with fail
          go_ret2
          refine ⟨?_, ge_new T4⟩
          unfold DecOut
          rw [HV2.out]
          rfl
end Go.Proofs.YtmegkmhcfehnkaaGreatDoor
