import Derived.Test.YtmegkmhcfehnkaaGreatDoorVEnc
/- Bytes as rows, by the code. -/
namespace Go.Proofs.YtmegkmhcfehnkaaGreatDoor
open Go.RowKit

/-- A value that is read at the place a. -/
def rdV (S : ByteArray) (a : Nat) (e : Int) : (Val × Bool) × Nat × Int :=
  if (byteR S a e).1 = 0 then ((⟨0, 0, ⟨#[]⟩⟩, true), (byteR S a e).2)
  else if (byteR S a e).1 = 1 then ((⟨1, unf (numR 10 1 S (byteR S a e).2.1 (byteR S a e).2.2).1, ⟨#[]⟩⟩, true), (numR 10 1 S (byteR S a e).2.1 (byteR S a e).2.2).2)
  else if (byteR S a e).1 = 2 then ((⟨2, 0, (textR 200 S (byteR S a e).2.1 (byteR S a e).2.2).1⟩, true), (textR 200 S (byteR S a e).2.1 (byteR S a e).2.2).2)
  else if (byteR S a e).1 = 3 ∨ (byteR S a e).1 = 4 then ((⟨3, (byteR S a e).1 - 3, ⟨#[]⟩⟩, true), (byteR S a e).2)
  else ((⟨0, 0, ⟨#[]⟩⟩, false), (byteR S a e).2)
theorem byteR_lt (S : ByteArray) (a : Nat) (e : Int) : (byteR S a e).1 ≤ 255 := by
  unfold byteR
  split
  · simp
  · split
    · have := (S.data.toList.getD a 0).toNat_lt
      show (S.data.toList.getD a 0).toNat ≤ 255
      omega
    · simp

theorem read_res (tmps : Array Value) (W : World) (p : Nat) (k n : Int) (s : ByteArray) (b : Bool) (c0 : W.cell? ⟨p, 0, none⟩ = some (.int .i64 k)) (c1 : W.cell? ⟨p, 1, none⟩ = some (.int .i64 n)) (c2 : W.cell? ⟨p, 2, none⟩ = some (.string s)) (h2 : tmps[2]?.getD undef = .pointer (some ⟨p, 0, none⟩)) (h3 : tmps[3]?.getD undef = .bool b) :
    (results Tryz.f26 tmps).run Tryz.prog W = .ok (.tuple #[vA k n s, .bool b]) W := by
  have hrs : Tryz.f26.results = #[.cell 2 23, .tmp 3] := by kernel_rfl
  simp only [results, hrs]
  go_simp
theorem box_set (W : World) (p : Nat) (x0 x1 x2 y0 y1 y2 : Value) (c0 : W.cell? ⟨p, 0, none⟩ = some x0) (c1 : W.cell? ⟨p, 1, none⟩ = some x1) (c2 : W.cell? ⟨p, 2, none⟩ = some x2) :
    let W' := ((W.setCell ⟨p, 0, none⟩ y0).setCell ⟨p, 1, none⟩ y1).setCell ⟨p, 2, none⟩ y2
    W'.cell? ⟨p, 0, none⟩ = some y0 ∧ W'.cell? ⟨p, 1, none⟩ = some y1 ∧ W'.cell? ⟨p, 2, none⟩ = some y2 := by
  intro W'
  refine ⟨?_, ?_, ?_⟩
  · show (((W.setCell ⟨p, 0, none⟩ y0).setCell ⟨p, 1, none⟩ y1).setCell ⟨p, 2, none⟩ y2).cell? ⟨p, 0, none⟩ = _
    rw [World.cell?_setCell_other (h := by simp), World.cell?_setCell_other (h := by simp), World.cell?_setCell_same (h := c0)]
  · show (((W.setCell ⟨p, 0, none⟩ y0).setCell ⟨p, 1, none⟩ y1).setCell ⟨p, 2, none⟩ y2).cell? ⟨p, 1, none⟩ = _
    have d1 : (W.setCell ⟨p, 0, none⟩ y0).cell? ⟨p, 1, none⟩ = some x1 := by rw [World.cell?_setCell_other (h := by simp)]; exact c1
    rw [World.cell?_setCell_other (h := by simp), World.cell?_setCell_same (h := d1)]
  · have d2 : ((W.setCell ⟨p, 0, none⟩ y0).setCell ⟨p, 1, none⟩ y1).cell? ⟨p, 2, none⟩ = some x2 := by rw [World.cell?_setCell_other (h := by simp), World.cell?_setCell_other (h := by simp)]; exact c2
    exact World.cell?_setCell_same _ _ _ d2
theorem box_set_tch (W : World) (p : Nat) (y0 y1 y2 : Value) : Tch (fun i => i = p) W (((W.setCell ⟨p, 0, none⟩ y0).setCell ⟨p, 1, none⟩ y1).setCell ⟨p, 2, none⟩ y2) :=
  ((Tch.setCell (fun i => i = p) W ⟨p, 0, none⟩ y0 rfl).setCellR ⟨p, 1, none⟩ y1 rfl).setCellR ⟨p, 2, none⟩ y2 rfl

set_option maxHeartbeats 2000000 in
set_option maxRecDepth 100000 in
theorem read_any (b : Nat) (S : ByteArray) (a : Nat) (e : Int) (w : World) (h : RD w b S a e) (hS : S.size ≤ 281474976710656) :
    Calls Tryz.prog 26 #[.pointer (some ⟨b, 0, none⟩)] w fun x w' => x = .returned (.tuple #[vA (rdV S a e).1.1.k (rdV S a e).1.1.n (rdV S a e).1.1.s, .bool (rdV S a e).1.2]) ∧ RD w' b S (rdV S a e).2.1 (rdV S a e).2.2 ∧ Tch (fun i => i = b) w w' := by
  have hb : b < w.heap.size := cell_lt h.st.c0
  have T0 : Tch (fun i => i = b) w (w.alloc (.cells #[.int .i64 0, .int .i64 0, .string ⟨#[]⟩] 23)) := Tch.alloc _ _ _
  have h0 := h.tch (Tch.alloc (fun _ => False) w (.cells #[.int .i64 0, .int .i64 0, .string ⟨#[]⟩] 23)) (fun h => h)
  have HBx : Hid (∀ W, Tch (fun i => i = b) (w.alloc (.cells #[.int .i64 0, .int .i64 0, .string ⟨#[]⟩] 23)) W → (W.cell? ⟨w.heap.size, 0, none⟩ = some (.int .i64 0) ∧ W.cell? ⟨w.heap.size, 1, none⟩ = some (.int .i64 0) ∧ W.cell? ⟨w.heap.size, 2, none⟩ = some (.string ⟨#[]⟩)) ∧ (∀ j, W.frozen? ⟨w.heap.size, j, none⟩ = false)) := fun W t => by
    have hn : ¬ (w.heap.size = b) := by omega
    obtain ⟨g0, g1, g2⟩ := box_cells w (.int .i64 0) (.int .i64 0) (.string ⟨#[]⟩) 23
    exact ⟨⟨(t.cell (p := ⟨_, _, none⟩) (by simp) hn).trans g0, (t.cell (p := ⟨_, _, none⟩) (by simp) hn).trans g1, (t.cell (p := ⟨_, _, none⟩) (by simp) hn).trans g2⟩, fun j => (t.frozen (p := ⟨_, _, none⟩) (by simp) hn).trans (by simp)⟩
  have HFin : Hid (∀ W a' e', Tch (fun i => i = b) (w.alloc (.cells #[.int .i64 0, .int .i64 0, .string ⟨#[]⟩] 23)) W → RD W b S a' e' → ∀ (k n : Int) (s : ByteArray) (ok : Bool) (tmps : Array Value), tmps[2]?.getD undef = .pointer (some ⟨w.heap.size, 0, none⟩) → tmps[3]?.getD undef = .bool ok →
      (results Tryz.f26 tmps).run Tryz.prog (((W.setCell ⟨w.heap.size, 0, none⟩ (.int .i64 k)).setCell ⟨w.heap.size, 1, none⟩ (.int .i64 n)).setCell ⟨w.heap.size, 2, none⟩ (.string s)) = .ok (.tuple #[vA k n s, .bool ok]) (((W.setCell ⟨w.heap.size, 0, none⟩ (.int .i64 k)).setCell ⟨w.heap.size, 1, none⟩ (.int .i64 n)).setCell ⟨w.heap.size, 2, none⟩ (.string s)) ∧ RD (((W.setCell ⟨w.heap.size, 0, none⟩ (.int .i64 k)).setCell ⟨w.heap.size, 1, none⟩ (.int .i64 n)).setCell ⟨w.heap.size, 2, none⟩ (.string s)) b S a' e' ∧ Tch (fun i => i = b) w (((W.setCell ⟨w.heap.size, 0, none⟩ (.int .i64 k)).setCell ⟨w.heap.size, 1, none⟩ (.int .i64 n)).setCell ⟨w.heap.size, 2, none⟩ (.string s))) := fun W a' e' t hr k n s ok tmps h2 h3 => by
    obtain ⟨⟨c0, c1, c2⟩, _⟩ := HBx.out _ t
    obtain ⟨d0, d1, d2⟩ := box_set W w.heap.size _ _ _ (.int .i64 k) (.int .i64 n) (.string s) c0 c1 c2
    refine ⟨read_res tmps _ w.heap.size k n s ok d0 d1 d2 h2 h3, hr.tch (box_set_tch W _ _ _ _) (by omega), ?_⟩
    exact ((T0.trans' t).trans (box_set_tch W w.heap.size _ _ _) (fun i hi he => by omega))
  obtain ⟨r, hr⟩ : ∃ r, r = rdV S a e := ⟨_, rfl⟩
  rw [← hr]
  have hm := byteR_lt S a e
  go_enter Tryz.func26, Tryz.ntmps26
  go_wp2_with fail
  refine (rbyte_any b S a e _ h0 hS).mono ?_
  rintro x w1 ⟨rfl, h1, t1⟩
  obtain ⟨⟨c0, c1, c2⟩, f0⟩ := HBx.out _ t1
  unfold rdV at hr
  obtain ⟨m, a1, e1, hE⟩ : ∃ m a1 e1, byteR S a e = (m, a1, e1) := ⟨_, _, _, rfl⟩
  rw [hE] at h1 hr hm ⊢
  simp only at h1 hr hm
  clear hE h0
  have f1 := f0 0; have f2 := f0 1; have f3 := f0 2
  clear h f0
  by_cases m0 : m = 0
  · subst m0
    simp only [if_true] at hr
    subst hr
    go_wp2_with fail
    have HF := HFin.out w1 a1 e1 t1 h1 0 0 ⟨#[]⟩ true
    refine bodyPost_ret (HF _ rfl rfl).1 rfl ⟨rfl, (HF #[undef, undef, .pointer (some ⟨w.heap.size, 0, none⟩), .bool true] rfl rfl).2⟩
  · rw [if_neg m0] at hr
    have m0' : ¬ ((m : Nat) : Int) = 0 := by omega
    by_cases m1 : m = 1
    · subst m1
      simp only [if_true] at hr
      go_wp2_with fail
      refine (rint_any b S a1 e1 _ h1 hS).mono ?_
      rintro x w2 ⟨rfl, h2, t2⟩
      have t3 := t1.trans' t2
      clear c0 c1 c2 f1 f2 f3
      obtain ⟨⟨c0, c1, c2⟩, f0⟩ := HBx.out _ t3
      have f1 := f0 0; have f2 := f0 1; have f3 := f0 2
      clear f0
      obtain ⟨u, a2, e2, hE⟩ : ∃ u a2 e2, numR 10 1 S a1 e1 = (u, a2, e2) := ⟨_, _, _, rfl⟩
      rw [hE] at h2 hr ⊢
      simp only at h2 hr
      obtain ⟨y, hy⟩ : ∃ y, y = unf u := ⟨_, rfl⟩
      rw [← hy] at hr ⊢
      clear hE hy t1 t2 h1
      subst hr
      have HF := HFin.out w2 a2 e2 t3 h2 1 y ⟨#[]⟩ true
      clear h2 t3
      go_wp2_with fail
      refine bodyPost_ret (HF _ rfl rfl).1 rfl ⟨rfl, (HF #[undef, undef, .pointer (some ⟨w.heap.size, 0, none⟩), .bool true] rfl rfl).2⟩
    · rw [if_neg m1] at hr
      have m1' : ¬ ((m : Nat) : Int) = 1 := by omega
      by_cases m2 : m = 2
      · subst m2
        simp only [if_true] at hr
        go_wp2_with fail
        refine (rtext_any b S a1 e1 200 _ h1 hS).mono ?_
        rintro x w2 ⟨rfl, h2, t2⟩
        have t3 := t1.trans' t2
        clear c0 c1 c2 f1 f2 f3
        obtain ⟨⟨c0, c1, c2⟩, f0⟩ := HBx.out _ t3
        have f1 := f0 0; have f2 := f0 1; have f3 := f0 2
        clear f0
        obtain ⟨u, a2, e2, hE⟩ : ∃ u a2 e2, textR 200 S a1 e1 = (u, a2, e2) := ⟨_, _, _, rfl⟩
        rw [hE] at h2 hr ⊢
        simp only at h2 hr
        clear hE t1 t2 h1
        subst hr
        have HF := HFin.out w2 a2 e2 t3 h2 2 0 u true
        clear h2 t3
        go_wp2_with fail
        refine bodyPost_ret (HF _ rfl rfl).1 rfl ⟨rfl, (HF #[undef, undef, .pointer (some ⟨w.heap.size, 0, none⟩), .bool true] rfl rfl).2⟩
      · rw [if_neg m2] at hr
        have m2' : ¬ ((m : Nat) : Int) = 2 := by omega
        by_cases m3 : m = 3 ∨ m = 4
        · rw [if_pos m3] at hr
          subst hr
          have HF := HFin.out w1 a1 e1 t1 h1 3 ((m : Int) - 3) ⟨#[]⟩ true
          rcases m3 with rfl | rfl
          · go_wp2_with fail
            refine bodyPost_ret (HF _ rfl rfl).1 rfl ⟨rfl, (HF #[undef, undef, .pointer (some ⟨w.heap.size, 0, none⟩), .bool true] rfl rfl).2⟩
          · go_wp2_with fail
            refine bodyPost_ret (HF _ rfl rfl).1 rfl ⟨rfl, (HF #[undef, undef, .pointer (some ⟨w.heap.size, 0, none⟩), .bool true] rfl rfl).2⟩
        · rw [if_neg m3] at hr
          have m3' : ¬ ((m : Nat) : Int) = 3 := by omega
          have m4' : ¬ ((m : Nat) : Int) = 4 := by omega
          subst hr
          have HF := HFin.out w1 a1 e1 t1 h1 0 0 ⟨#[]⟩ false
          clear m0 m1 m2 m3
          go_wp2_with fail
          refine bodyPost_ret (HF _ rfl rfl).1 rfl ⟨rfl, (HF #[undef, undef, .pointer (some ⟨w.heap.size, 0, none⟩), .bool false] rfl rfl).2⟩
end Go.Proofs.YtmegkmhcfehnkaaGreatDoor
