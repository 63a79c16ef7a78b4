import Derived.Test.YteaagnlhkopgdaaGreatDoorVEnc
import Derived.Test.YteaagnlhkopgdaaGreatDoorPlainAgain
set_option maxHeartbeats 2000000
set_option maxRecDepth 100000
namespace Go.Proofs.YteaagnlhkopgdaaGreatDoor
open Go.RowKit
def rdV (S : ByteArray) (a : Nat) (e : Int) : (Val × Bool) × Nat × Int :=
  if (byteR S a e).1 = 0 then ((⟨0, 0, ⟨#[]⟩⟩, true), (byteR S a e).2)
  else if (byteR S a e).1 = 1 then ((⟨1, unf (numR 10 1 S (byteR S a e).2.1 (byteR S a e).2.2).1, ⟨#[]⟩⟩, true), (numR 10 1 S (byteR S a e).2.1 (byteR S a e).2.2).2)
  else if (byteR S a e).1 = 2 then ((⟨2, 0, (textR 200 S (byteR S a e).2.1 (byteR S a e).2.2).1⟩, true), (textR 200 S (byteR S a e).2.1 (byteR S a e).2.2).2)
  else if (byteR S a e).1 = 3 ∨ (byteR S a e).1 = 4 then ((⟨3, (byteR S a e).1 - 3, ⟨#[]⟩⟩, true), (byteR S a e).2)
  else ((⟨0, 0, ⟨#[]⟩⟩, false), (byteR S a e).2)
theorem byteR_lt (S : ByteArray) (a : Nat) (e : Int) : (byteR S a e).1 ≤ 255 := by
  unfold byteR
  split
  · simp
  · split
    · have := (S.data.toList.getD a 0).toNat_lt
      show (S.data.toList.getD a 0).toNat ≤ 255
      omega
    · simp
theorem read_res (tmps : Array Value) (W : World) (p : Nat) (k n : Int) (s : ByteArray) (b : Bool) (c0 : W.cell? ⟨p, 0, none⟩ = some (.int .i64 k)) (c1 : W.cell? ⟨p, 1, none⟩ = some (.int .i64 n)) (c2 : W.cell? ⟨p, 2, none⟩ = some (.string s)) (h2 : tmps[2]?.getD undef = .pointer (some ⟨p, 0, none⟩)) (h3 : tmps[3]?.getD undef = .bool b) :
    (results Tryz.f151 tmps).run Tryz.prog W = .ok (.tuple #[vA k n s, .bool b]) W := by
  have hrs : Tryz.f151.results = #[.cell 2 52, .tmp 3] := by kernel_rfl
  simp only [results, hrs]
  go_simp
theorem box_set (W : World) (p : Nat) (x0 x1 x2 y0 y1 y2 : Value) (c0 : W.cell? ⟨p, 0, none⟩ = some x0) (c1 : W.cell? ⟨p, 1, none⟩ = some x1) (c2 : W.cell? ⟨p, 2, none⟩ = some x2) :
    let W' := ((W.setCell ⟨p, 0, none⟩ y0).setCell ⟨p, 1, none⟩ y1).setCell ⟨p, 2, none⟩ y2
    W'.cell? ⟨p, 0, none⟩ = some y0 ∧ W'.cell? ⟨p, 1, none⟩ = some y1 ∧ W'.cell? ⟨p, 2, none⟩ = some y2 := by
  intro W'
  refine ⟨?_, ?_, ?_⟩
  · show (((W.setCell ⟨p, 0, none⟩ y0).setCell ⟨p, 1, none⟩ y1).setCell ⟨p, 2, none⟩ y2).cell? ⟨p, 0, none⟩ = _
    rw [World.cell?_setCell_other (h := by simp), World.cell?_setCell_other (h := by simp), World.cell?_setCell_same (h := c0)]
  · show (((W.setCell ⟨p, 0, none⟩ y0).setCell ⟨p, 1, none⟩ y1).setCell ⟨p, 2, none⟩ y2).cell? ⟨p, 1, none⟩ = _
    have d1 : (W.setCell ⟨p, 0, none⟩ y0).cell? ⟨p, 1, none⟩ = some x1 := by rw [World.cell?_setCell_other (h := by simp)]; exact c1
    rw [World.cell?_setCell_other (h := by simp), World.cell?_setCell_same (h := d1)]
  · have d2 : ((W.setCell ⟨p, 0, none⟩ y0).setCell ⟨p, 1, none⟩ y1).cell? ⟨p, 2, none⟩ = some x2 := by rw [World.cell?_setCell_other (h := by simp), World.cell?_setCell_other (h := by simp)]; exact c2
    exact World.cell?_setCell_same _ _ _ d2
theorem box_set_tch (W : World) (p : Nat) (y0 y1 y2 : Value) : Tch (fun i => i = p) W (((W.setCell ⟨p, 0, none⟩ y0).setCell ⟨p, 1, none⟩ y1).setCell ⟨p, 2, none⟩ y2) :=
  ((Tch.setCell (fun i => i = p) W ⟨p, 0, none⟩ y0 rfl).setCellR ⟨p, 1, none⟩ y1 rfl).setCellR ⟨p, 2, none⟩ y2 rfl
theorem read_any (b : Nat) (S : ByteArray) (a : Nat) (e : Int) (w : World) (h : RD w b S a e) (hS : S.size ≤ 281474976710656) :
    Calls Tryz.prog 151 #[.pointer (some ⟨b, 0, none⟩)] w fun x w' => x = .returned (.tuple #[vA (rdV S a e).1.1.k (rdV S a e).1.1.n (rdV S a e).1.1.s, .bool (rdV S a e).1.2]) ∧ RD w' b S (rdV S a e).2.1 (rdV S a e).2.2 ∧ Tch (fun i => i = b) w w' := by
  have hb : b < w.heap.size := cell_lt h.st.c0
  have T0 : Tch (fun i => i = b) w (w.alloc (.cells #[.int .i64 0, .int .i64 0, .string ⟨#[]⟩] 52)) := Tch.alloc _ _ _
  have h0 := h.tch (Tch.alloc (fun _ => False) w (.cells #[.int .i64 0, .int .i64 0, .string ⟨#[]⟩] 52)) (fun h => h)
  have HBx : Hid (∀ W, Tch (fun i => i = b) (w.alloc (.cells #[.int .i64 0, .int .i64 0, .string ⟨#[]⟩] 52)) W → (W.cell? ⟨w.heap.size, 0, none⟩ = some (.int .i64 0) ∧ W.cell? ⟨w.heap.size, 1, none⟩ = some (.int .i64 0) ∧ W.cell? ⟨w.heap.size, 2, none⟩ = some (.string ⟨#[]⟩)) ∧ (∀ j, W.frozen? ⟨w.heap.size, j, none⟩ = false)) := fun W t => by
    have hn : ¬ (w.heap.size = b) := by omega
    obtain ⟨g0, g1, g2⟩ := box_cells w (.int .i64 0) (.int .i64 0) (.string ⟨#[]⟩) 52
    exact ⟨⟨(t.cell (p := ⟨_, _, none⟩) (by simp) hn).trans g0, (t.cell (p := ⟨_, _, none⟩) (by simp) hn).trans g1, (t.cell (p := ⟨_, _, none⟩) (by simp) hn).trans g2⟩, fun j => (t.frozen (p := ⟨_, _, none⟩) (by simp) hn).trans (by simp)⟩
  have HFin : Hid (∀ W a' e', Tch (fun i => i = b) (w.alloc (.cells #[.int .i64 0, .int .i64 0, .string ⟨#[]⟩] 52)) W → RD W b S a' e' → ∀ (k n : Int) (s : ByteArray) (ok : Bool) (tmps : Array Value), tmps[2]?.getD undef = .pointer (some ⟨w.heap.size, 0, none⟩) → tmps[3]?.getD undef = .bool ok →
      (results Tryz.f151 tmps).run Tryz.prog (((W.setCell ⟨w.heap.size, 0, none⟩ (.int .i64 k)).setCell ⟨w.heap.size, 1, none⟩ (.int .i64 n)).setCell ⟨w.heap.size, 2, none⟩ (.string s)) = .ok (.tuple #[vA k n s, .bool ok]) (((W.setCell ⟨w.heap.size, 0, none⟩ (.int .i64 k)).setCell ⟨w.heap.size, 1, none⟩ (.int .i64 n)).setCell ⟨w.heap.size, 2, none⟩ (.string s)) ∧ RD (((W.setCell ⟨w.heap.size, 0, none⟩ (.int .i64 k)).setCell ⟨w.heap.size, 1, none⟩ (.int .i64 n)).setCell ⟨w.heap.size, 2, none⟩ (.string s)) b S a' e' ∧ Tch (fun i => i = b) w (((W.setCell ⟨w.heap.size, 0, none⟩ (.int .i64 k)).setCell ⟨w.heap.size, 1, none⟩ (.int .i64 n)).setCell ⟨w.heap.size, 2, none⟩ (.string s))) := fun W a' e' t hr k n s ok tmps h2 h3 => by
    obtain ⟨⟨c0, c1, c2⟩, _⟩ := HBx.out _ t
    obtain ⟨d0, d1, d2⟩ := box_set W w.heap.size _ _ _ (.int .i64 k) (.int .i64 n) (.string s) c0 c1 c2
    refine ⟨read_res tmps _ w.heap.size k n s ok d0 d1 d2 h2 h3, hr.tch (box_set_tch W _ _ _ _) (by omega), ?_⟩
    exact ((T0.trans' t).trans (box_set_tch W w.heap.size _ _ _) (fun i hi he => by omega))
  obtain ⟨r, hr⟩ : ∃ r, r = rdV S a e := ⟨_, rfl⟩
  rw [← hr]
  have hm := byteR_lt S a e
  go_enter Tryz.func151, Tryz.ntmps151
  go_wp2_with fail
  refine (rbyte_any b S a e _ h0 hS).mono ?_
  rintro x w1 ⟨rfl, h1, t1⟩
  obtain ⟨⟨c0, c1, c2⟩, f0⟩ := HBx.out _ t1
  unfold rdV at hr
  obtain ⟨m, a1, e1, hE⟩ : ∃ m a1 e1, byteR S a e = (m, a1, e1) := ⟨_, _, _, rfl⟩
  rw [hE] at h1 hr hm ⊢
  simp only at h1 hr hm
  clear hE h0
  have f1 := f0 0; have f2 := f0 1; have f3 := f0 2
  clear h f0
  by_cases m0 : m = 0
  · subst m0
    simp only [if_true] at hr
    subst hr
    go_wp2_with fail
    have HF := HFin.out w1 a1 e1 t1 h1 0 0 ⟨#[]⟩ true
    refine bodyPost_ret (HF _ rfl rfl).1 rfl ⟨rfl, (HF #[undef, undef, .pointer (some ⟨w.heap.size, 0, none⟩), .bool true] rfl rfl).2⟩
  · rw [if_neg m0] at hr
    have m0' : ¬ ((m : Nat) : Int) = 0 := by omega
    by_cases m1 : m = 1
    · subst m1
      simp only [if_true] at hr
      go_wp2_with fail
      refine (rint_any b S a1 e1 _ h1 hS).mono ?_
      rintro x w2 ⟨rfl, h2, t2⟩
      have t3 := t1.trans' t2
      clear c0 c1 c2 f1 f2 f3
      obtain ⟨⟨c0, c1, c2⟩, f0⟩ := HBx.out _ t3
      have f1 := f0 0; have f2 := f0 1; have f3 := f0 2
      clear f0
      obtain ⟨u, a2, e2, hE⟩ : ∃ u a2 e2, numR 10 1 S a1 e1 = (u, a2, e2) := ⟨_, _, _, rfl⟩
      rw [hE] at h2 hr ⊢
      simp only at h2 hr
      obtain ⟨y, hy⟩ : ∃ y, y = unf u := ⟨_, rfl⟩
      rw [← hy] at hr ⊢
      clear hE hy t1 t2 h1
      subst hr
      have HF := HFin.out w2 a2 e2 t3 h2 1 y ⟨#[]⟩ true
      clear h2 t3
      go_wp2_with fail
      refine bodyPost_ret (HF _ rfl rfl).1 rfl ⟨rfl, (HF #[undef, undef, .pointer (some ⟨w.heap.size, 0, none⟩), .bool true] rfl rfl).2⟩
    · rw [if_neg m1] at hr
      have m1' : ¬ ((m : Nat) : Int) = 1 := by omega
      by_cases m2 : m = 2
      · subst m2
        simp only [if_true] at hr
        go_wp2_with fail
        refine (rtext_any b S a1 e1 200 _ h1 hS).mono ?_
        rintro x w2 ⟨rfl, h2, t2⟩
        have t3 := t1.trans' t2
        clear c0 c1 c2 f1 f2 f3
        obtain ⟨⟨c0, c1, c2⟩, f0⟩ := HBx.out _ t3
        have f1 := f0 0; have f2 := f0 1; have f3 := f0 2
        clear f0
        obtain ⟨u, a2, e2, hE⟩ : ∃ u a2 e2, textR 200 S a1 e1 = (u, a2, e2) := ⟨_, _, _, rfl⟩
        rw [hE] at h2 hr ⊢
        simp only at h2 hr
        clear hE t1 t2 h1
        subst hr
        have HF := HFin.out w2 a2 e2 t3 h2 2 0 u true
        clear h2 t3
        go_wp2_with fail
        refine bodyPost_ret (HF _ rfl rfl).1 rfl ⟨rfl, (HF #[undef, undef, .pointer (some ⟨w.heap.size, 0, none⟩), .bool true] rfl rfl).2⟩
      · rw [if_neg m2] at hr
        have m2' : ¬ ((m : Nat) : Int) = 2 := by omega
        by_cases m3 : m = 3 ∨ m = 4
        · rw [if_pos m3] at hr
          subst hr
          have HF := HFin.out w1 a1 e1 t1 h1 3 ((m : Int) - 3) ⟨#[]⟩ true
          rcases m3 with rfl | rfl
          · go_wp2_with fail
            refine bodyPost_ret (HF _ rfl rfl).1 rfl ⟨rfl, (HF #[undef, undef, .pointer (some ⟨w.heap.size, 0, none⟩), .bool true] rfl rfl).2⟩
          · go_wp2_with fail
            refine bodyPost_ret (HF _ rfl rfl).1 rfl ⟨rfl, (HF #[undef, undef, .pointer (some ⟨w.heap.size, 0, none⟩), .bool true] rfl rfl).2⟩
        · rw [if_neg m3] at hr
          have m3' : ¬ ((m : Nat) : Int) = 3 := by omega
          have m4' : ¬ ((m : Nat) : Int) = 4 := by omega
          subst hr
          have HF := HFin.out w1 a1 e1 t1 h1 0 0 ⟨#[]⟩ false
          clear m0 m1 m2 m3
          go_wp2_with fail
          refine bodyPost_ret (HF _ rfl rfl).1 rfl ⟨rfl, (HF #[undef, undef, .pointer (some ⟨w.heap.size, 0, none⟩), .bool false] rfl rfl).2⟩
end Go.Proofs.YteaagnlhkopgdaaGreatDoor
namespace Go.Proofs.YteaagnlhkopgdaaGreatDoor
open Go.RowKit
def decGo (S : ByteArray) : Nat → Nat → Int → List Val → Option (List Val)
  | 0, a, e, l => if doneE e (S.size - a) = 0 then some l else none
  | n + 1, a, e, l => if (rdV S a e).1.2 = true then decGo S n (rdV S a e).2.1 (rdV S a e).2.2 (l ++ [(rdV S a e).1.1]) else none
def decR (S : ByteArray) : Option (List Val) := if 8 < (byteR S 0 0).1 then none else decGo S (byteR S 0 0).1 (byteR S 0 0).2.1 (byteR S 0 0).2.2 []
def RowNew (w : World) (R : Nat) (vs : List Val) : Prop := RowAt w R 0 vs ∧ ∃ cur, w.heap[R]? = some (.cells cur 52 (0, 0)) ∧ cur.size = vs.length * 3
def DecOut (S : ByteArray) (w : World) (x : Ending) (w' : World) : Prop := match decR S with
  | none => x = .returned (.tuple #[.slice none 0 0, .int .i64 43])
  | some vs => ∃ R, w.heap.size ≤ R ∧ x = .returned (.tuple #[.slice (some ⟨R, 0, none⟩) vs.length vs.length, .int .i64 0]) ∧ RowNew w' R vs
theorem blk_lt {w : World} {b : Nat} {o : Obj} (h : w.heap[b]? = some o) : b < w.heap.size := (Array.getElem?_eq_some_iff.1 h).1
theorem blk_cell {w : World} {b : Nat} {cs : Array Value} {t : TypeId} {fr : Nat × Nat} (h : w.heap[b]? = some (.cells cs t fr)) (i : Nat) : w.cell? ⟨b, i, none⟩ = cs[i]? := by
  simp [World.cell?, h]
theorem blk_frozen {w : World} {b : Nat} {cs : Array Value} {t : TypeId} (h : w.heap[b]? = some (.cells cs t (0, 0))) (i : Nat) : w.frozen? ⟨b, i, none⟩ = false := by
  simp [World.frozen?, h]
theorem blk_set {w : World} {b i : Nat} {cs : Array Value} {t : TypeId} {fr : Nat × Nat} (h : w.heap[b]? = some (.cells cs t fr)) (v : Value) : (w.setCell ⟨b, i, none⟩ v).heap[b]? = some (.cells (cs.setIfInBounds i v) t fr) := by
  have hl := blk_lt h
  simp only [World.setCell]
  rw [Array.getElem?_modify]
  simp [h]
theorem info_val : (Tryz.prog.info? 52).map (fun i => (i.zero, i.size, i.bytes)) = some (some (.agg #[.int .i64 0, .int .i64 0, .string ⟨#[]⟩]), 3, 32) := by kernel_rfl
theorem make_row (n : Nat) (w : World) (hn : 32 * n ≤ 281474976710656) :
    (Instr.makeSlice 26 (.int .i64 (n : Int)) (.int .i64 (n : Int))).run Tryz.prog w = .ok (.slice (some ⟨w.heap.size, 0, none⟩) n n) (w.alloc (.cells (madeCells #[.int .i64 0, .int .i64 0, .string ⟨#[]⟩] (n * 3)) 52)) := by
  obtain ⟨i0, hi, hz0, hz1, hz2⟩ := info_parts info_val
  have h := run_make (P := Tryz.prog) w 26 52 i0 (.agg #[.int .i64 0, .int .i64 0, .string ⟨#[]⟩]) Tryz.underlying26 hi hz0 .i64 .i64 n n (by omega) (Int.le_refl _) (by rw [hz2]; omega) (by omega)
  simpa [hz1, Value.cells] using h
structure RO (w : World) (R n : Nat) (l : List Val) : Prop where
  blk : ∃ cur, w.heap[R]? = some (.cells cur 52 (0, 0)) ∧ cur.size = n * 3
  got : RowAt w R 0 l
theorem RO.tch {S : Nat → Prop} {w w' : World} {R n : Nat} {l : List Val} (h : RO w R n l) (t : Tch S w w') (hs : ¬ S R) : RO w' R n l := by
  obtain ⟨cur, h1, h2⟩ := h.blk
  exact ⟨⟨cur, (t.block R (blk_lt h1) hs).trans h1, h2⟩, h.got.tch t (fun _ => hs)⟩
theorem RO.step {w : World} {R n : Nat} {l : List Val} (h : RO w R n l) (hk : l.length < n) (v : Val) : RO (((w.setCell ⟨R, l.length * 3, none⟩ (.int .i64 v.k)).setCell ⟨R, l.length * 3 + 1, none⟩ (.int .i64 v.n)).setCell ⟨R, l.length * 3 + 2, none⟩ (.string v.s)) R n (l ++ [v]) := by
  obtain ⟨cur, h1, h2⟩ := h.blk
  have h3 := blk_set (blk_set (blk_set h1 (i := l.length * 3) (.int .i64 v.k)) (i := l.length * 3 + 1) (.int .i64 v.n)) (i := l.length * 3 + 2) (.string v.s)
  refine ⟨⟨_, h3, by simp [h2]⟩, fun i hi => ?_⟩
  rw [blk_cell h3, blk_cell h3, blk_cell h3]
  simp only [Nat.zero_add]
  rw [List.length_append, List.length_singleton] at hi
  rcases Nat.lt_or_ge i l.length with hik | hik
  · obtain ⟨g1, g2, g3⟩ := h.got i hik
    rw [blk_cell h1] at g1 g2 g3
    simp only [Nat.zero_add] at g1 g2 g3
    rw [List.getElem_append_left hik]
    refine ⟨?_, ?_, ?_⟩
    · rw [Array.getElem?_setIfInBounds_ne (by omega), Array.getElem?_setIfInBounds_ne (by omega), Array.getElem?_setIfInBounds_ne (by omega)]; exact g1
    · rw [Array.getElem?_setIfInBounds_ne (by omega), Array.getElem?_setIfInBounds_ne (by omega), Array.getElem?_setIfInBounds_ne (by omega)]; exact g2
    · rw [Array.getElem?_setIfInBounds_ne (by omega), Array.getElem?_setIfInBounds_ne (by omega), Array.getElem?_setIfInBounds_ne (by omega)]; exact g3
  · obtain rfl : i = l.length := by omega
    rw [List.getElem_append_right (Nat.le_refl _)]
    simp only [Nat.sub_self, List.getElem_cons_zero]
    refine ⟨?_, ?_, ?_⟩
    · rw [Array.getElem?_setIfInBounds_ne (by omega), Array.getElem?_setIfInBounds_ne (by omega), Array.getElem?_setIfInBounds_self_of_lt (by omega)]
    · rw [Array.getElem?_setIfInBounds_ne (by omega), Array.getElem?_setIfInBounds_self_of_lt (by simp; omega)]
    · rw [Array.getElem?_setIfInBounds_self_of_lt (by simp; omega)]
theorem RO.room {w : World} {R n : Nat} {l : List Val} (h : RO w R n l) (hk : l.length < n) : (∃ y, w.cell? ⟨R, l.length * 3, none⟩ = some y) ∧ (∃ y, w.cell? ⟨R, l.length * 3 + 1, none⟩ = some y) ∧ (∃ y, w.cell? ⟨R, l.length * 3 + 2, none⟩ = some y) ∧ ∀ j, w.frozen? ⟨R, j, none⟩ = false := by
  obtain ⟨cur, h1, h2⟩ := h.blk
  exact ⟨⟨cur[l.length * 3]'(by omega), by rw [blk_cell h1]; exact Array.getElem?_eq_getElem _⟩, ⟨cur[l.length * 3 + 1]'(by omega), by rw [blk_cell h1]; exact Array.getElem?_eq_getElem _⟩, ⟨cur[l.length * 3 + 2]'(by omega), by rw [blk_cell h1]; exact Array.getElem?_eq_getElem _⟩, fun j => blk_frozen h1 j⟩
theorem decode_any (S : ByteArray) (w : World) (hg : HE w) (hS : S.size ≤ 281474976710656) :
    Calls Tryz.prog 148 #[.string S] w fun x w' => DecOut S w x w' ∧ Tch (fun _ => False) w w' := by
  have hel : 0 < w.heap.size := cell_lt hg
  have HG : Hid (∀ W, Tch (fun i => w.heap.size ≤ i) w W → HE W) := fun W t => hg.tch t (by omega)
  have hm := byteR_lt S 0 0
  clear hg hel
  go_enter Tryz.func148, Tryz.ntmps148
  go_wp2_with (go_at_call 26; refine (newReader_any _ _).mono ?_; rintro x w1 ⟨rfl, h1, t1, z1⟩; have T1 := no_mono (S := fun i => w.heap.size ≤ i) t1)
  refine (rbyte_any _ S 0 0 _ h1 hS).mono ?_
  rintro x w2 ⟨rfl, h2, t2⟩
  have T2 := T1.trans' (eq_mono t2 (Nat.le_refl _))
  clear T1 t1 t2 h1
  obtain ⟨n, a1, e1, hE⟩ : ∃ n a1 e1, byteR S 0 0 = (n, a1, e1) := ⟨_, _, _, rfl⟩
  have HD : Hid (decR S = if 8 < n then none else decGo S n a1 e1 []) := by show _ = _; unfold decR; rw [hE]
  rw [hE] at h2 hm ⊢
  simp only at h2 hm ⊢
  clear hE
  by_cases h8 : 8 < n
  · have h8' : (8 : Int) < n := by omega
    have HD2 : Hid (decR S = none) := by show _ = _; rw [HD.out, if_pos h8]
    go_wp2_with fail
    go_ret2
    refine ⟨?_, ge_new T2⟩
    unfold DecOut
    rw [HD2.out]
    rfl
  · have h8' : ¬ (8 : Int) < n := by omega
    have HD2 : Hid (decR S = decGo S n a1 e1 []) := by show _ = _; rw [HD.out, if_neg h8]
    clear HD hm
    have hmk := make_row n w2 (by omega)
    obtain ⟨w3, hw3⟩ : ∃ w3, w3 = w2.alloc (.cells (madeCells #[.int .i64 0, .int .i64 0, .string ⟨#[]⟩] (n * 3)) 52) := ⟨_, rfl⟩
    obtain ⟨R, hR⟩ : ∃ R, R = w2.heap.size := ⟨_, rfl⟩
    rw [← hw3, ← hR] at hmk
    have t3 : Tch (fun _ => False) w2 w3 := by rw [hw3]; exact Tch.alloc _ _ _
    have hb2 : w.heap.size < w2.heap.size := cell_lt h2.st.c0
    have F0 : RO w3 R n [] := ⟨⟨_, by rw [hw3, hR]; exact heap_new w2 _, size_madeCells _ _⟩, fun i hi => by simp at hi⟩
    have T3 := T2.trans' (no_mono t3)
    have h3 := h2.tch t3 (fun h => h)
    have hRw : w.heap.size < R := by omega
    have hR3 : R < w3.heap.size := by rw [hw3, hR]; simp
    clear hw3 hR t3 h2 T2 hb2
    go_wp2_with fail
    go_loopw [22] (fun i wr => ∃ (k a e : _) (l : List Val), i = .int .i64 (k : Nat) ∧ k ≤ n ∧ l.length = k ∧ Hid (decR S = decGo S (n - k) a e l) ∧ RO wr R n l ∧ RD wr w.heap.size S a e ∧ Tch (fun i => w.heap.size ≤ i) w wr) (fun i _ => n - (intOf i).toNat)
    case atStart => exact ⟨0, a1, e1, [], rfl, Nat.zero_le _, rfl, HD2, F0, h3, T3⟩
    case round =>
      obtain ⟨k, a, e, l, rfl, hk, hl, HA, hO, hD, hT⟩ := hrel
      clear F0 h3 T3 HD2
      by_cases hlt : k < n
      · have hlt' : (k : Int) < n := by omega
        have HV : Hid (decR S = if (rdV S a e).1.2 = true then decGo S (n - (k + 1)) (rdV S a e).2.1 (rdV S a e).2.2 (l ++ [(rdV S a e).1.1]) else none) := by
          show _ = _
          rw [HA.out, show n - k = (n - (k + 1)) + 1 by omega]; rfl
        have hRr : R < wr.heap.size := by obtain ⟨cur, h1, _⟩ := hO.blk; exact blk_lt h1
        go_wp2_with fail
        refine (read_any _ S a e _ hD hS).mono ?_
        rintro x w4 ⟨rfl, h4, t4⟩
        have hO4 := hO.tch t4 (by omega)
        have T4 := hT.trans' (eq_mono t4 (Nat.le_refl _))
        obtain ⟨⟨v, ok⟩, a', e', hE⟩ : ∃ (p : Val × Bool) (a' : Nat) (e' : Int), rdV S a e = (p, a', e') := ⟨_, _, _, rfl⟩
        rw [hE] at h4 HV ⊢
        simp only at h4 HV ⊢
        clear hE hO hD hT t4
        have hv4 : R < w4.heap.size := by obtain ⟨cur, h1, _⟩ := hO4.blk; exact blk_lt h1
        cases ok with
        | true =>
          have HA5 : Hid (decR S = decGo S (n - (k + 1)) a' e' (l ++ [v])) := by
            show _ = _
            rw [HV.out]; rfl
          obtain ⟨⟨y0, g0⟩, ⟨y1, g1⟩, ⟨y2, g2⟩, hfr⟩ := hO4.room (by omega)
          have hO5 := hO4.step (by omega) v
          rw [hl] at g0 g1 g2 hO5
          have f0 := hfr (k * 3); have f1 := hfr (k * 3 + 1); have f2 := hfr (k * 3 + 2)
          have t5 : Tch (fun i => i = R) w4 (((w4.setCell ⟨R, k * 3, none⟩ (.int .i64 v.k)).setCell ⟨R, k * 3 + 1, none⟩ (.int .i64 v.n)).setCell ⟨R, k * 3 + 2, none⟩ (.string v.s)) :=
            ((Tch.setCell (fun i => i = R) w4 ⟨R, k * 3, none⟩ _ rfl).setCellR ⟨R, k * 3 + 1, none⟩ _ rfl).setCellR ⟨R, k * 3 + 2, none⟩ _ rfl
          have HB : Hid (∀ o : Obj, RO ((((w4.setCell ⟨R, k * 3, none⟩ (.int .i64 v.k)).setCell ⟨R, k * 3 + 1, none⟩ (.int .i64 v.n)).setCell ⟨R, k * 3 + 2, none⟩ (.string v.s)).alloc o) R n (l ++ [v]) ∧ RD ((((w4.setCell ⟨R, k * 3, none⟩ (.int .i64 v.k)).setCell ⟨R, k * 3 + 1, none⟩ (.int .i64 v.n)).setCell ⟨R, k * 3 + 2, none⟩ (.string v.s)).alloc o) w.heap.size S a' e' ∧ Tch (fun i => w.heap.size ≤ i) w ((((w4.setCell ⟨R, k * 3, none⟩ (.int .i64 v.k)).setCell ⟨R, k * 3 + 1, none⟩ (.int .i64 v.n)).setCell ⟨R, k * 3 + 2, none⟩ (.string v.s)).alloc o)) := fun o =>
            ⟨hO5.tch (Tch.alloc (fun _ => False) _ o) (fun h => h), (h4.tch t5 (by omega)).tch (Tch.alloc (fun _ => False) _ o) (fun h => h), (T4.trans' (t5.mono (fun i _ hi => by omega))).allocR o⟩
          clear hO4 h4 T4 t5 HA HV hO5 hfr
          go_wp2_with fail
          go_roundw
          case rel =>
            obtain ⟨q1, q2, q3⟩ := HB.out (.cells #[.int .i64 v.k, .int .i64 v.n, .string v.s] 52)
            exact ⟨k + 1, a', e', l ++ [v], by go_num, by omega, by simp [hl], HA5, q1, q2, q3⟩
          case measure => simp [intOf]; omega
        | false =>
          have HA5 : Hid (decR S = none) := by
            show _ = _
            rw [HV.out]; rfl
          clear HA HV
          go_wp2_with fail
          go_ret2
          refine ⟨?_, ge_new (T4.allocR _)⟩
          unfold DecOut
          rw [HA5.out]
          rfl
      · have hlt' : ¬ (k : Int) < n := by omega
        have hkn : k = n := by omega
        subst hkn
        have HV : Hid (decR S = if doneE e (S.size - a) = 0 then some l else none) := by
          show _ = _
          rw [HA.out, Nat.sub_self]; rfl
        have hgE := HG.out wr hT
        have hdn := rdone_any _ (S.extract a S.size) a e wr hD.st hgE
        rw [tail_size] at hdn
        have hRr : R < wr.heap.size := by obtain ⟨cur, h1, _⟩ := hO.blk; exact blk_lt h1
        go_wp2_with fail
        refine hdn.mono ?_
        rintro x w4 ⟨rfl, t4⟩
        have hO4 := hO.tch t4 (fun h => h)
        have T4 := hT.trans' (no_mono t4)
        obtain ⟨q, hq⟩ : ∃ q, q = doneE e (S.size - a) := ⟨_, rfl⟩
        rw [← hq] at HV ⊢
        clear hq hdn hO hT t4 hgE hD
        by_cases hq0 : q = 0
        · subst hq0
          go_wp2_with fail
          go_ret2
          refine ⟨?_, ge_new T4⟩
          unfold DecOut
          rw [HV.out]
          simp only [if_true]
          refine ⟨R, by omega, by rw [hl]; rfl, hO4.got, ?_⟩
          rw [hl]; exact hO4.blk
        · have hq1 : (q != 0) = true := by simpa using hq0
          have HV2 : Hid (decR S = none) := by show _ = _; rw [HV.out, if_neg hq0]
          clear hq0 HV
          go_wp2_with fail
          go_ret2
          refine ⟨?_, ge_new T4⟩
          unfold DecOut
          rw [HV2.out]
          rfl
end Go.Proofs.YteaagnlhkopgdaaGreatDoor
namespace Go.Proofs.YteaagnlhkopgdaaGreatDoor
open Go.RowKit
theorem byte_take {S : ByteArray} {a v a' : Nat} (h : byteR S a 0 = (v, a', 0)) : a' ≤ S.size ∧ S.data.toList.take a' = S.data.toList.take a ++ [UInt8.ofNat v] ∧ v ≤ 255 := by
  have hv := (ag_byte h).1
  unfold byteR at h
  rw [if_neg (by simp)] at h
  by_cases ha : a < S.size
  · rw [if_pos ha] at h
    simp only [Prod.mk.injEq] at h
    obtain ⟨rfl, rfl, _⟩ := h
    have hl : a < S.data.toList.length := by simpa using ha
    refine ⟨ha, ?_, hv⟩
    rw [List.take_succ_eq_append_getElem hl, List.getD_eq_getElem?_getD, List.getElem?_eq_getElem hl]
    simp
  · rw [if_neg ha] at h
    simp at h
theorem byteR_e {S : ByteArray} {a : Nat} {e : Int} (h : (byteR S a e).2.2 = 0) : e = 0 := by
  unfold byteR at h
  by_cases he : e = 0
  · exact he
  · rw [if_pos he] at h; exact absurd h he
theorem numR_e {last top : Nat} {S : ByteArray} {a : Nat} {e : Int} (h : (numR last top S a e).2.2 = 0) : e = 0 := by
  by_cases he : e = 0
  · exact he
  · rw [numR_wrong he] at h; exact h
theorem textR_e {m : Int} {S : ByteArray} {a : Nat} {e : Int} (h : (textR m S a e).2.2 = 0) : e = 0 := by
  unfold textR at h
  by_cases he : e = 0
  · exact he
  · rw [if_pos he] at h; exact absurd h he
theorem textR_size {S : ByteArray} {a a' : Nat} {t : ByteArray} (h : textR 200 S a 0 = (t, a', 0)) : t.size ≤ 200 := by
  unfold textR at h
  rw [if_neg (by simp), if_neg (by omega)] at h
  rcases hd : dgs 9 127 (S.data.toList.drop a) 0 0 with ⟨n, k, c⟩
  rw [hd] at h
  simp only at h
  split at h
  · rename_i hc; simp only [Prod.mk.injEq] at h; exact absurd h.2.2 hc
  · split at h
    · simp at h
    · split at h
      · simp at h
      · rename_i h1 h2 h3
        simp only [Prod.mk.injEq] at h
        rw [← h.1, ByteArray.size_extract]
        omega
theorem byteR_le {S : ByteArray} {a : Nat} {e : Int} (h : a ≤ S.size) : (byteR S a e).2.1 ≤ S.size := by
  unfold byteR
  split
  · exact h
  · split
    · assumption
    · exact h
theorem numR_le {S : ByteArray} {a : Nat} {e : Int} (h : a ≤ S.size) : (numR 10 1 S a e).2.1 ≤ S.size := by
  by_cases he : e = 0
  · subst he
    rcases hn : numR 10 1 S a 0 with ⟨n, a1, e1⟩
    rcases (ag_int h hn).2 with ⟨_, _, h5, _⟩ | ⟨_, _, rfl⟩
    · exact h5
    · exact h
  · rw [numR_wrong he]; exact h
theorem textR_le {S : ByteArray} {a : Nat} {e : Int} (h : a ≤ S.size) : (textR 200 S a e).2.1 ≤ S.size := by
  by_cases he : e = 0
  · subst he
    rcases hn : textR 200 S a 0 with ⟨n, a1, e1⟩
    rcases (ag_text h (by omega) hn).2 with ⟨_, _, h5, _⟩ | ⟨_, _, rfl⟩
    · exact h5
    · exact h
  · unfold textR; rw [if_pos he]; exact h
theorem rdV_le {S : ByteArray} {a a' : Nat} {e e' : Int} {p : Val × Bool} (hle : a ≤ S.size) (h : rdV S a e = (p, a', e')) : a' ≤ S.size := by
  have h0 : (rdV S a e).2.1 = a' := by rw [h]
  rw [← h0]
  have hb := byteR_le (e := e) hle
  unfold rdV
  split
  · exact hb
  · split
    · exact numR_le hb
    · split
      · exact textR_le hb
      · split
        · exact hb
        · exact hb
theorem rdV_again {S : ByteArray} {a a' : Nat} {e : Int} {v : Val} (h : rdV S a e = ((v, true), a', 0)) : e = 0 ∧ a' ≤ S.size ∧ S.data.toList.take a' = S.data.toList.take a ++ encV v ∧ wrg v = 0 ∧ v.i64 := by
  unfold rdV at h
  rcases hb : byteR S a e with ⟨m, b, f⟩
  rw [hb] at h
  simp only at h
  have hbe : f = 0 → e = 0 := fun hf => byteR_e (by rw [hb]; exact hf)
  split at h
  · rename_i h0
    simp only [Prod.mk.injEq] at h
    obtain ⟨⟨rfl, _⟩, rfl, rfl⟩ := h
    obtain rfl := hbe rfl
    subst h0
    obtain ⟨g1, g2, _⟩ := byte_take hb
    exact ⟨rfl, g1, g2, by decide, ⟨⟨by decide, by decide⟩, by decide, by decide⟩⟩
  · split at h
    · rename_i h0 h1
      subst h1
      simp only [Prod.mk.injEq] at h
      obtain ⟨⟨rfl, _⟩, h2⟩ := h
      have hf : f = 0 := numR_e (by rw [h2])
      subst hf
      obtain rfl := hbe rfl
      obtain ⟨g1, g2, _⟩ := byte_take hb
      rcases hn : numR 10 1 S b 0 with ⟨n, a1, e1⟩
      rw [hn] at h2
      simp only [Prod.mk.injEq] at h2
      obtain ⟨rfl, rfl⟩ := h2
      obtain ⟨hr, h3⟩ := ag_int g1 hn
      rcases h3 with ⟨_, _, h5, h6⟩ | ⟨h4, _⟩
      · rw [laidOn_zero] at h6
        refine ⟨rfl, h5, ?_, ?_, ⟨by simp, by simp⟩, ?_⟩
        · rw [← h6, g2, List.append_assoc]; rfl
        · unfold wrg; rw [if_pos (show frm _ from Or.inr (Or.inl ⟨rfl, rfl⟩)), if_pos (by show (0 : Nat) ≤ 200; omega)]
        · exact hr
      · exact absurd rfl h4
    · split at h
      · rename_i h0 h1 h2
        subst h2
        simp only [Prod.mk.injEq] at h
        obtain ⟨⟨rfl, _⟩, h2⟩ := h
        have hf : f = 0 := textR_e (m := 200) (by rw [h2])
        subst hf
        obtain rfl := hbe rfl
        obtain ⟨g1, g2, _⟩ := byte_take hb
        rcases hn : textR 200 S b 0 with ⟨t, a1, e1⟩
        rw [hn] at h2
        simp only [Prod.mk.injEq] at h2
        obtain ⟨rfl, rfl⟩ := h2
        have hts := textR_size hn
        obtain ⟨hr, h3⟩ := ag_text g1 (by omega) hn
        rcases h3 with ⟨_, _, h5, h6⟩ | ⟨h4, _⟩
        · have hc : textC t 300 = 0 := by unfold textC; rw [if_neg (by omega), if_neg (by omega)]
          have h7 : S.data.toList.take b ++ textL t = S.data.toList.take a1 := by
            rw [hc] at h6
            unfold upd at h6
            simp at h6
            exact h6
          refine ⟨rfl, h5, ?_, ?_, ⟨by simp, by simp⟩, by simp, by simp⟩
          · rw [← h7, g2, List.append_assoc]; rfl
          · unfold wrg frm; simp [hts]
        · exact absurd rfl h4
      · split at h
        · rename_i h0 h1 h2 h3
          simp only [Prod.mk.injEq] at h
          obtain ⟨⟨rfl, _⟩, rfl, rfl⟩ := h
          obtain rfl := hbe rfl
          obtain ⟨g1, g2, _⟩ := byte_take hb
          refine ⟨rfl, g1, ?_, ?_, ⟨by simp, by simp⟩, ?_⟩
          · rw [g2]
            rcases h3 with rfl | rfl <;> rfl
          · rcases h3 with rfl | rfl <;> decide
          · rcases h3 with rfl | rfl <;> exact ⟨by decide, by decide⟩
        · simp at h
theorem decGo_again {S : ByteArray} : ∀ (n a : Nat) (e : Int) (l vs : List Val), a ≤ S.size → decGo S n a e l = some vs → e = 0 ∧ ∃ vs', vs = l ++ vs' ∧ vs'.length = n ∧ (∀ v ∈ vs', wrg v = 0 ∧ v.i64) ∧ S.data.toList = S.data.toList.take a ++ vs'.flatMap encV
  | 0, a, e, l, vs, hle, h => by
    unfold decGo at h
    split at h
    · rename_i h0
      have he : e = 0 := by
        unfold doneE at h0
        by_cases h1 : e = 0
        · exact h1
        · rw [if_neg h1] at h0; exact h0
      subst he
      have ha : S.size - a = 0 := by
        unfold doneE at h0
        rw [if_pos rfl] at h0
        split at h0
        · assumption
        · simp at h0
      refine ⟨rfl, [], ?_, rfl, fun v hv => by simp at hv, ?_⟩
      · simpa using h.symm
      · simp
        exact (List.take_of_length_le (by simp; omega)).symm
    · simp at h
  | n + 1, a, e, l, vs, hle, h => by
    unfold decGo at h
    rcases hr : rdV S a e with ⟨⟨v, ok⟩, a', e'⟩
    rw [hr] at h
    simp only at h
    split at h
    · rename_i hok
      subst hok
      have ha' : a' ≤ S.size := rdV_le hle hr
      obtain ⟨rfl, vs', rfl, h2, h3, h4⟩ := decGo_again n a' e' (l ++ [v]) vs ha' h
      obtain ⟨rfl, h5, h6, h7, h8⟩ := rdV_again hr
      refine ⟨rfl, v :: vs', by simp, by simp [h2], fun u hu => ?_, ?_⟩
      · rcases List.mem_cons.1 hu with rfl | hu
        · exact ⟨h7, h8⟩
        · exact h3 u hu
      · rw [List.flatMap_cons, ← List.append_assoc, ← h6]; exact h4
    · simp at h
theorem encGo_all : ∀ (vs : List Val) (bs : List UInt8), (∀ v ∈ vs, wrg v = 0) → encGo vs bs = (bs ++ vs.flatMap encV, 0)
  | [], bs, _ => by simp [encGo]
  | v :: r, bs, h => by
    unfold encGo
    rw [if_pos (h v (by simp)), encGo_all r _ (fun u hu => h u (by simp [hu])), List.flatMap_cons, List.append_assoc]
theorem dec_enc {S : ByteArray} {vs : List Val} (h : decR S = some vs) : encR vs = (S.data.toList, 0) ∧ vs.length ≤ 8 ∧ ∀ v ∈ vs, wrg v = 0 ∧ v.i64 := by
  unfold decR at h
  rcases hb : byteR S 0 0 with ⟨m, b, f⟩
  rw [hb] at h
  simp only at h
  split at h
  · simp at h
  · rename_i h8
    have hb1 : b ≤ S.size := by have := byteR_le (S := S) (a := 0) (e := 0) (Nat.zero_le _); rw [hb] at this; exact this
    obtain ⟨rfl, vs', rfl, h2, h3, h4⟩ := decGo_again m b f [] vs hb1 h
    obtain ⟨g1, g2, _⟩ := byte_take hb
    refine ⟨?_, by omega, h3⟩
    unfold encR
    rw [if_neg (by omega), encGo_all _ _ (fun v hv => (h3 v hv).1), h2]
    refine Prod.ext ?_ rfl
    show _ ++ _ = _
    rw [g2] at h4
    simpa using h4.symm
end Go.Proofs.YteaagnlhkopgdaaGreatDoor
