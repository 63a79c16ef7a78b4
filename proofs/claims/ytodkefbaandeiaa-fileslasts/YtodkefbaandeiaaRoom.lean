/- FilesRoom, walked. -/
import Derived.Test.YtodkefbaandeiaaRoom0
import Derived.Test.YtodkefbaandeiaaList
import Derived.Deep.OwnRows
namespace Go.Proofs.Ytodkefbaandeiaa
open Go.RowKit Go.ChangeMaps Go.Sort

/-- The cells of a list of deeds. -/
def Deeds (w : World) (ao : Option Addr) (len : Nat) : Prop := ∀ i, i < len → ∃ b off kd fl n, ∃ s : ByteArray, ao = some ⟨b, off, none⟩ ∧ (w.cell? ⟨b, off + i * 4, none⟩ = some (.int .i64 kd) ∧ w.cell? ⟨b, off + i * 4 + 1, none⟩ = some (.int .i64 fl) ∧ w.cell? ⟨b, off + i * 4 + 2, none⟩ = some (.int .i64 n) ∧ w.cell? ⟨b, off + i * 4 + 3, none⟩ = some (.string s)) ∧
  ((-9223372036854775808 ≤ kd ∧ kd ≤ 9223372036854775807) ∧ (-9223372036854775808 ≤ fl ∧ fl ≤ 9223372036854775807) ∧ -9223372036854775808 ≤ n ∧ n ≤ 9223372036854775807) ∧ s.size ≤ 9223372036854775807
theorem Deeds.tch {w w' : World} {ao : Option Addr} {len : Nat} (h : Deeds w ao len) (t : Tch (fun _ => False) w w') : Deeds w' ao len := fun i hi => by
  obtain ⟨b, off, kd, fl, n, s, h1, ⟨h2, h3, h4, h5⟩, h6⟩ := h i hi
  exact ⟨b, off, kd, fl, n, s, h1, ⟨(t.cell (p := ⟨b, _, none⟩) (cell_lt h2) (fun h => h)).trans h2, (t.cell (p := ⟨b, _, none⟩) (cell_lt h3) (fun h => h)).trans h3, (t.cell (p := ⟨b, _, none⟩) (cell_lt h4) (fun h => h)).trans h4, (t.cell (p := ⟨b, _, none⟩) (cell_lt h5) (fun h => h)).trans h5⟩, h6⟩

/-- A row of four numbers at block sb. -/
def Four4 (w : World) (sb : Nat) (z : Nat → Int) : Prop := w.heap[sb]? = some (.cells #[.int .i64 (z 0), .int .i64 (z 1), .int .i64 (z 2), .int .i64 (z 3)] 3 (0, 0))
theorem Four4.cell {w : World} {sb : Nat} {z : Nat → Int} (h : Four4 w sb z) {k : Nat} (hk : k < 4) : w.cell? ⟨sb, k, none⟩ = some (.int .i64 (z k)) := by
  rw [blk_cell h]
  rcases lt4 hk with rfl | rfl | rfl | rfl <;> rfl
theorem Four4.fz {w : World} {sb : Nat} {z : Nat → Int} (h : Four4 w sb z) (k : Nat) : w.frozen? ⟨sb, k, none⟩ = false := blk_frozen h k
theorem Four4.set {w : World} {sb : Nat} {z : Nat → Int} (h : Four4 w sb z) {k : Nat} (hk : k < 4) (v : Int) : Four4 (w.setCell ⟨sb, k, none⟩ (.int .i64 v)) sb (fun i => if i = k then v else z i) := by
  unfold Four4
  rw [blk_set h]
  rcases lt4 hk with rfl | rfl | rfl | rfl <;> rfl
theorem Four4.tch {w w' : World} {sb : Nat} {z : Nat → Int} {S : Nat → Prop} (h : Four4 w sb z) (t : Tch S w w') (hs : ¬ S sb) : Four4 w' sb z := by
  unfold Four4 at *
  rw [t.block sb (blk_lt h) hs]; exact h
theorem Four4.congr {w : World} {sb : Nat} {z z' : Nat → Int} (h : Four4 w sb z) (e : ∀ i, i < 4 → z' i = z i) : Four4 w sb z' := by
  unfold Four4 at *
  rw [e 0 (by omega), e 1 (by omega), e 2 (by omega), e 3 (by omega)]; exact h

theorem made4 (z : Value) : madeCells #[z] 4 = #[z, z, z, z] := by
  unfold madeCells
  rw [show Array.range 4 = #[0, 1, 2, 3] from rfl]
  simp [Nat.mod_one]
theorem info_int : (Try.prog.info? 3).map (fun i => (i.zero, i.size, i.bytes)) = some (some (.int .i64 0), 1, 8) := by kernel_rfl
theorem fileB_nm (k : Nat) : (fileB k).data.toList = nmF k := rfl
theorem tch_regrown (w : World) (p : Regrown) : Tch (fun _ => False) w (grow (redrawn w p.d) p.os) := Tch.of_below (below_regrown w p.d p.os) (Nat.le_refl _)
theorem Calls.tch_regrown_of {P : Program} {f : FuncId} {args : Array Value} {w : World} {d : Nat} {os : Array Obj} {v : Value}
    (h : Calls P f args (grow (redrawn w d) os) fun e w' => e = .returned v ∧ Tch (fun _ => False) (grow (redrawn w d) os) w') : Calls P f args (grow (redrawn w d) os) fun e w'' => e = .returned v ∧ ∃ p : Regrown, w'' = grow (redrawn w p.d) p.os :=
  Calls.regrown_of (h.mono fun _ _ ⟨he, t⟩ => ⟨he, t.below (Nat.le_refl _) (fun _ _ h => h)⟩)
theorem file_k {k : Nat} (hk : k < 4) (w : World) : Calls Try.prog 23 #[.int .i64 (k : Int)] w fun x w' => x = .returned (.string (fileB k)) ∧ Tch (fun _ => False) w w' := by
  have := file_any k w (by omega) (by omega)
  rw [show pk (k : Int) 4 = k from pk_small (n := 4) hk] at this
  exact this

def rcD (c : Nat) : Nat → Dsk
  | 0 => newD c
  | k + 1 => ((rcD c k).create (nmF k)).2
theorem rcD_ok (c : Nat) {k : Nat} (hk : k < 4) : ((rcD c k).create (nmF k)).1 = 0 ∧ (rcD c k).m.length < maxLen := by
  have h1 : (rcD c k).m.length ≤ 4 := by rcases lt4 hk with rfl | rfl | rfl | rfl <;> (show (_ : Nat) ≤ 4; exact of_decide_eq_true rfl)
  refine ⟨by rcases lt4 hk with rfl | rfl | rfl | rfl <;> rfl, by unfold maxLen; omega⟩
theorem rcD_4 (c : Nat) : rcD c 4 = D4 c (fun _ => e0) := rfl

theorem used_upd (c : Nat) (f : Nat → Fl) {q : Nat} (hq : q < 4) (x : Fl) : (D4 c (updF f q x)).used = (D4 c f).used - (f q).bs.length + x.bs.length := by
  rw [d4_used, d4_used]
  rcases lt4 hq with rfl | rfl | rfl | rfl <;> simp [updF] <;> omega
theorem used_ge (c : Nat) (f : Nat → Fl) {q : Nat} (hq : q < 4) : (f q).bs.length ≤ (D4 c f).used := by
  rw [d4_used]
  rcases lt4 hq with rfl | rfl | rfl | rfl <;> omega
theorem used_two (c : Nat) (f : Nat → Fl) {q j : Nat} (hq : q < 4) (hj : j < 4) (h : q ≠ j) : (f q).bs.length + (f j).bs.length ≤ (D4 c f).used := by
  rw [d4_used]
  rcases lt4 hq with rfl | rfl | rfl | rfl <;> rcases lt4 hj with rfl | rfl | rfl | rfl <;> first | exact absurd rfl h | omega

set_option maxHeartbeats 16000000 in
set_option maxRecDepth 100000 in
theorem room_any (n : Int) (ao : Option Addr) (len cap : Nat) (w : World) (hn1 : -9223372036854775808 ≤ n) (hn2 : n ≤ 9223372036854775807) (hK : Deeds w ao len) (hlen : len ≤ 9223372036854775807) :
    Calls Try.prog 4 #[.int .i64 n, .slice ao len cap] w fun x w' => x = .returned (.bool true) ∧ Tch (fun _ => False) w w' := by
  have HK : Hid (∀ W, Tch (fun _ => False) w W → Deeds W ao len) := fun W t => hK.tch t
  clear hK
  go_enter Try.func4, Try.ntmps4
  go_wp2_with fail
  refine (pick_any n 300 _ hn1 hn2 (by omega) (by omega)).mono ?_
  rintro x w2 ⟨rfl, hw2⟩
  subst hw2
  have hnr := pk_rng n 300 (by omega)
  obtain ⟨p, hp⟩ : ∃ p : Nat, pk n 300 = p := ⟨(pk n 300).toNat, by omega⟩
  rw [hp] at hnr ⊢
  have hp300 : p < 300 := by omega
  clear hp hnr hn1 hn2
  go_wp2_with fail
  have hnew := new_any (1 + p) w2 (by omega) (by omega)
  rw [show ((1 + p : Nat) : Int) = 1 + (p : Int) by omega] at hnew
  refine hnew.mono ?_
  rintro x w3 ⟨b, rfl, h3, t3⟩
  clear hnew
  have hmk := fun W => run_make_row' (P := Try.prog) 22 3 (.int .i64 0) 8 Try.underlying22 info_int rfl .i64 .i64 4 (by omega) (by omega) W
  obtain ⟨sb, hsb⟩ : ∃ sb, sb = w3.heap.size := ⟨_, rfl⟩
  obtain ⟨w4, hw4⟩ : ∃ w4, w4 = w3.alloc (.cells #[.int .i64 0, .int .i64 0, .int .i64 0, .int .i64 0] 3) := ⟨_, rfl⟩
  have hmk3 : (Instr.makeSlice 22 (.int .i64 4) (.int .i64 4)).run Try.prog w3 = .ok (.slice (some ⟨sb, 0, none⟩) 4 4) w4 := by
    rw [hsb, hw4]; rw [← made4]; exact hmk w3
  have t4 : Tch (fun _ => False) w3 w4 := by rw [hw4]; exact Tch.alloc _ _ _
  have z4 : Four4 w4 sb (fun _ => 0) := by
    unfold Four4
    rw [hw4, hsb]; exact box_one w3 _
  have hsl : sb < w4.heap.size := blk_lt z4
  have h4 : DF w4 b (newD (1 + p)) (fun i => i < w2.heap.size ∨ i = sb) := by
    refine (h3.fresh t4).mono (fun i hi => ?_)
    rcases hi with hi | hi
    · exact Or.inl hi
    · exact Or.inr ⟨by omega, by omega⟩
  have hsn : w2.heap.size ≤ sb := by rw [hsb]; exact t3.size
  have T4 := t3.trans' t4
  clear hmk hsb hw4 t4 h3 t3 hsl
  go_wp2_with fail
  go_loopw [8] (fun i wr => ∃ k : Nat, i = .int .i64 k ∧ k ≤ 4 ∧ DF wr b (rcD (1 + p) k) (fun i => i < w2.heap.size ∨ i = sb) ∧ Four4 wr sb (fun _ => 0) ∧ Tch (fun _ => False) w2 wr) (fun i _ => 4 - (intOf i).toNat)
  case atStart => exact ⟨0, rfl, by omega, h4, z4, T4⟩
  case round =>
    obtain ⟨k, rfl, hk, hD, hZ, hT⟩ := hrel
    clear h4 z4 T4 hmk3
    by_cases hlt : (k : Int) < 4
    · go_wp2_with fail
      refine (file_k (k := k) (by omega) _).mono ?_
      rintro x w5 ⟨rfl, t5⟩
      obtain ⟨ok, hl⟩ := rcD_ok (1 + p) (k := k) (by omega)
      have hc := create_f b (rcD (1 + p) k) _ w5 (fileB k) (hD.no t5) hl
      rw [fileB_nm, ok] at hc
      go_wp2_with fail
      refine hc.mono ?_
      rintro x w6 ⟨rfl, h6, t6⟩
      have T6 : Tch (fun _ => False) w2 w6 := (hT.trans' t5).trans t6 (fun i hi hn => hn (Or.inl hi))
      have z6 := (hZ.tch t5 (fun h => h)).tch t6 (fun hn => hn (Or.inr rfl))
      clear hc t5 t6 hT hD hl hZ
      go_wp2
      go_roundw
      case rel => exact ⟨k + 1, by go_num, by omega, h6, z6, T6⟩
      case measure => simp [intOf]; omega
    · obtain rfl : k = 4 := by omega
      rw [rcD_4] at hD
      go_wp2_with fail
      go_loopw [10, 9] (fun i fr wr => ∃ (k : Nat) (f : Nat → Fl), i = .int .i64 k ∧ k ≤ len ∧ fr = .int .i64 (1 + (p : Int) - ((f) 0).bs.length - ((f) 1).bs.length - ((f) 2).bs.length - ((f) 3).bs.length) ∧ (D4 (1 + p) f).used ≤ 1 + p ∧ DF wr b (D4 (1 + p) f) (fun i => i < w2.heap.size ∨ i = sb) ∧ Four4 wr sb (fun i => (((f) i).bs.length : Int)) ∧ Tch (fun _ => False) w2 wr) (fun i _ _ => len - (intOf i).toNat)
      case atStart => exact ⟨0, fun _ => e0, rfl, by omega, by go_num, by rw [d4_used]; simp [e0], hD, hZ, hT⟩
      case round =>
        clear hD hZ hT
        obtain ⟨k, f, rfl, hk, rfl, hu, hD, hZ, hT⟩ := hrel
        by_cases hlt : (k : Int) < len
        · obtain ⟨kb, off, kd, fl, nn, s, rfl, ⟨c0, c1, c2, c3⟩, ⟨bk, bf, bn⟩, hs⟩ := HK.out w2 (Tch.refl _ _) k (by omega)
          have HC : Hid (∀ W, Tch (fun _ => False) w2 W → W.cell? ⟨kb, off + k * 4, none⟩ = some (.int .i64 kd) ∧ W.cell? ⟨kb, off + k * 4 + 1, none⟩ = some (.int .i64 fl) ∧ W.cell? ⟨kb, off + k * 4 + 2, none⟩ = some (.int .i64 nn) ∧ W.cell? ⟨kb, off + k * 4 + 3, none⟩ = some (.string s)) := fun W t =>
            ⟨(t.cell (p := ⟨kb, _, none⟩) (cell_lt c0) (fun h => h)).trans c0, (t.cell (p := ⟨kb, _, none⟩) (cell_lt c1) (fun h => h)).trans c1, (t.cell (p := ⟨kb, _, none⟩) (cell_lt c2) (fun h => h)).trans c2, (t.cell (p := ⟨kb, _, none⟩) (cell_lt c3) (fun h => h)).trans c3⟩
          clear c0 c1 c2 c3
          obtain ⟨c0, c1, c2, c3⟩ := HC.out wr hT
          go_wp2_with fail
          refine (pick_any fl 4 _ bf.1 bf.2 (by omega) (by omega)).mono ?_
          rintro x w5 ⟨rfl, hw5⟩
          subst hw5
          have hr4 := pk_rng fl 4 (by omega)
          obtain ⟨q, hq⟩ : ∃ q : Nat, pk fl 4 = q := ⟨(pk fl 4).toNat, by omega⟩
          rw [hq] at hr4 ⊢
          have hq4 : q < 4 := by omega
          clear hq hr4 bf
          go_wp2_with fail
          refine (pick_any kd 5 _ bk.1 bk.2 (by omega) (by omega)).mono ?_
          rintro x w6 ⟨rfl, hw6⟩
          subst hw6
          have hr5 := pk_rng kd 5 (by omega)
          obtain ⟨dk, hdk⟩ : ∃ dk, dk = pk kd 5 := ⟨_, rfl⟩
          rw [← hdk] at hr5 ⊢
          have hk5 : dk = 0 ∨ dk = 1 ∨ dk = 2 ∨ dk = 3 ∨ dk = 4 := by omega
          clear hdk hr5 bk
          obtain ⟨wr, hwr⟩ : ∃ wr, wr = w6 := ⟨_, rfl⟩
          rw [← hwr] at hD hZ hT c0 c1 c2 c3 ⊢
          clear hwr
          have cF : ∀ d os, Calls Try.prog 23 #[.int .i64 (q : Int)] (grow (redrawn wr d) os) fun e w'' => e = .returned (.string (fileB q)) ∧ ∃ p : Regrown, w'' = grow (redrawn wr p.d) p.os := fun d os => Calls.tch_regrown_of (file_k hq4 _)
          have cR := cell_regrown c3
          rcases hk5 with rfl | rfl | rfl | rfl | rfl
          · go_wp2_with fail
            refine wp_region_below_tail 8 (by kernel_rfl) (by kernel_rfl) ?_
            simp only [List.take_succ_cons, List.take_zero, List.drop_succ_cons, List.drop_zero]
            repeat (quiet_step ((go_at_call 23; exact cF _ _)))
            refine wpQuiet_nil ?_
            rintro w7 ⟨pp, rfl⟩
            have tG := tch_regrown wr pp
            obtain ⟨W, hW⟩ : ∃ W, W = grow (redrawn wr pp.d) pp.os := ⟨_, rfl⟩
            rw [← hW] at tG ⊢
            clear hW
            have hc := append_f b _ _ W (fileB q) s (hD.no tG)
            rw [fileB_nm, d4_append (1 + p) f hq4] at hc
            have HZW := hZ.tch tG (fun h => h)
            have HTW := hT.trans' tG
            by_cases hfull : 1 + p < (D4 (1 + p) f).used + s.data.toList.length
            · rw [if_pos hfull] at hc
              have hcmp : 1 + (p : Int) - ((f) 0).bs.length - ((f) 1).bs.length - ((f) 2).bs.length - ((f) 3).bs.length < (s.size : Int) := by
                have := d4_used (1 + p) f
                have h2 : s.data.toList.length = s.size := by simp
                omega
              clear hfull cF
              go_wp2_with fail
              refine hc.mono ?_
              rintro x w8 ⟨rfl, h8, t8⟩
              have T8 : Tch (fun _ => False) w2 w8 := HTW.trans t8 (fun i hi hn => hn (Or.inl hi))
              have z8 := HZW.tch t8 (fun hn => hn (Or.inr rfl))
              obtain ⟨_, _, _, e3⟩ := HC.out w8 T8
              have hu' := hu
              clear hc t8 hT hD hZ HZW HTW tG c0 c1 c2 c3 cR
              have hz0 := z8.cell (k := 0) (by omega)
              have hz1 := z8.cell (k := 1) (by omega)
              have hz2 := z8.cell (k := 2) (by omega)
              have hz3 := z8.cell (k := 3) (by omega)
              have HU := d4_used (1 + p) (f)
              have hbz : ((f) 0).bs.length ≤ 300 ∧ ((f) 1).bs.length ≤ 300 ∧ ((f) 2).bs.length ≤ 300 ∧ ((f) 3).bs.length ≤ 300 := by omega
              obtain ⟨g, hg⟩ : ∃ g : Nat → Fl, g = (f) := ⟨_, rfl⟩
              simp only [← hg] at *
              clear hg
              have HF : Hid (∀ m, DF (w8.drewN m) b (D4 (1 + p) g) (fun i => i < w2.heap.size ∨ i = sb)) := fun m => h8.drewN m
              have HZ : Hid (∀ m, Four4 (w8.drewN m) sb (fun i => (((g) i).bs.length : Int))) := fun m => z8.tch ((Tch.refl (fun _ => False) _).drewN m) (fun h => h)
              have HT : Hid (∀ m, Tch (fun _ => False) w2 (w8.drewN m)) := fun m => T8.drewN m
              have hfr : ((D4 (1 + p) g).cap : Int) - (D4 (1 + p) g).used = 1 + (p : Int) - ((g) 0).bs.length - ((g) 1).bs.length - ((g) 2).bs.length - ((g) 3).bs.length := by rw [HU]; show ((1 + p : Nat) : Int) - _ = _; omega
              have hfz : 0 ≤ 1 + (p : Int) - ((g) 0).bs.length - ((g) 1).bs.length - ((g) 2).bs.length - ((g) 3).bs.length := by omega
              have HUU : Hid ((D4 (1 + p) g).used ≤ 1 + p) := hu'
              obtain ⟨q0, q1, q2, q3⟩ := hbz
              clear h8 z8 T8 HU hu'
              go_wp2_with fail
              go_quiet (fail)
              have hfree := fun m => free_f b _ _ _ (HF.out m)
              simp only [hfr] at hfree
              clear hfr hz0 hz1 hz2 hz3
              go_wp2_with fail
              refine (hfree _).mono ?_
              rintro x w9 ⟨rfl, m9, hw9⟩
              subst hw9
              simp only [World.drewN_drewN]
              go_wp2
              go_roundw
              case rel => exact ⟨k + 1, g, by go_num, by omega, by go_num, HUU.out, HF.out _, HZ.out _, HT.out _⟩
              case measure => simp [intOf]; omega
            · rw [if_neg hfull] at hc
              have hcmp : ¬ 1 + (p : Int) - ((f) 0).bs.length - ((f) 1).bs.length - ((f) 2).bs.length - ((f) 3).bs.length < (s.size : Int) := by
                have := d4_used (1 + p) f
                have h2 : s.data.toList.length = s.size := by simp
                omega
              have hu' : (D4 (1 + p) (updF f q ⟨(f q).bs ++ s.data.toList, (f q).la⟩)).used ≤ 1 + p := by
                rw [used_upd (1 + p) f hq4]
                have h2 : s.data.toList.length = s.size := by simp
                have h3 := used_ge (1 + p) f hq4
                simp only [List.length_append]
                omega
              have hql := used_ge (1 + p) f hq4
              have hss : (s.size : Int) ≤ 300 := by
                have := d4_used (1 + p) f
                omega
              have hql2 : ((f q).bs.length : Int) ≤ 300 := by omega
              clear hfull cF
              go_wp2_with fail
              refine hc.mono ?_
              rintro x w8 ⟨rfl, h8, t8⟩
              have T8 : Tch (fun _ => False) w2 w8 := HTW.trans t8 (fun i hi hn => hn (Or.inl hi))
              have z8 := HZW.tch t8 (fun hn => hn (Or.inr rfl))
              obtain ⟨_, _, _, e3⟩ := HC.out w8 T8
              have zq := z8.cell hq4
              have zf := z8.fz q
              clear hc t8 hT hD hZ HZW HTW tG c0 c1 c2 c3 cR
              go_wp2_with fail
              go_region
              have h9 := h8.tch (S := fun i => i = sb) (w' := (w8.setCell ⟨sb, q, none⟩ (.int .i64 (((f q).bs.length : Int) + s.size))).drew) ((Tch.setCell (fun i => i = sb) w8 ⟨sb, q, none⟩ _ rfl).drew) (fun i _ hi => Or.inr hi)
              have z9' : Four4 (w8.setCell ⟨sb, q, none⟩ (.int .i64 (((f q).bs.length : Int) + s.size))) sb (fun i => (((updF f q ⟨(f q).bs ++ s.data.toList, (f q).la⟩) i).bs.length : Int)) := by
                refine (z8.set hq4 _).congr (fun i _ => ?_)
                by_cases e : i = q
                · simp [e, updF]
                · simp [e, updF]
              have z9 : Four4 (w8.setCell ⟨sb, q, none⟩ (.int .i64 (((f q).bs.length : Int) + s.size))).drew sb (fun i => (((updF f q ⟨(f q).bs ++ s.data.toList, (f q).la⟩) i).bs.length : Int)) := z9'
              clear z9'
              have T9 : Tch (fun _ => False) w2 (w8.setCell ⟨sb, q, none⟩ (.int .i64 (((f q).bs.length : Int) + s.size))).drew := (T8.setNew ⟨sb, q, none⟩ _ hsn).drew
              clear zq zf e3
              obtain ⟨W9, hW9⟩ : ∃ W9, W9 = (w8.setCell ⟨sb, q, none⟩ (.int .i64 (((f q).bs.length : Int) + s.size))).drew := ⟨_, rfl⟩
              rw [← hW9] at h9 z9 T9 ⊢
              clear hW9 h8 z8 T8
              have hz0 := z9.cell (k := 0) (by omega)
              have hz1 := z9.cell (k := 1) (by omega)
              have hz2 := z9.cell (k := 2) (by omega)
              have hz3 := z9.cell (k := 3) (by omega)
              have HU := d4_used (1 + p) (updF f q ⟨(f q).bs ++ s.data.toList, (f q).la⟩)
              have hbz : ((updF f q ⟨(f q).bs ++ s.data.toList, (f q).la⟩) 0).bs.length ≤ 300 ∧ ((updF f q ⟨(f q).bs ++ s.data.toList, (f q).la⟩) 1).bs.length ≤ 300 ∧ ((updF f q ⟨(f q).bs ++ s.data.toList, (f q).la⟩) 2).bs.length ≤ 300 ∧ ((updF f q ⟨(f q).bs ++ s.data.toList, (f q).la⟩) 3).bs.length ≤ 300 := by omega
              obtain ⟨g, hg⟩ : ∃ g : Nat → Fl, g = (updF f q ⟨(f q).bs ++ s.data.toList, (f q).la⟩) := ⟨_, rfl⟩
              simp only [← hg] at *
              clear hg
              have HF : Hid (∀ m, DF (W9.drewN m) b (D4 (1 + p) g) (fun i => i < w2.heap.size ∨ i = sb)) := fun m => h9.drewN m
              have HZ : Hid (∀ m, Four4 (W9.drewN m) sb (fun i => (((g) i).bs.length : Int))) := fun m => z9.tch ((Tch.refl (fun _ => False) _).drewN m) (fun h => h)
              have HT : Hid (∀ m, Tch (fun _ => False) w2 (W9.drewN m)) := fun m => T9.drewN m
              have hfr : ((D4 (1 + p) g).cap : Int) - (D4 (1 + p) g).used = 1 + (p : Int) - ((g) 0).bs.length - ((g) 1).bs.length - ((g) 2).bs.length - ((g) 3).bs.length := by rw [HU]; show ((1 + p : Nat) : Int) - _ = _; omega
              have hfz : 0 ≤ 1 + (p : Int) - ((g) 0).bs.length - ((g) 1).bs.length - ((g) 2).bs.length - ((g) 3).bs.length := by omega
              have HUU : Hid ((D4 (1 + p) g).used ≤ 1 + p) := hu'
              obtain ⟨q0, q1, q2, q3⟩ := hbz
              clear h9 z9 T9 HU hu'
              go_wp2_with fail
              go_quiet (fail)
              have hfree := fun m => free_f b _ _ _ (HF.out m)
              simp only [hfr] at hfree
              clear hfr hz0 hz1 hz2 hz3
              go_wp2_with fail
              refine (hfree _).mono ?_
              rintro x w9 ⟨rfl, m9, hw9⟩
              subst hw9
              simp only [World.drewN_drewN]
              go_wp2
              go_roundw
              case rel => exact ⟨k + 1, g, by go_num, by omega, by go_num, HUU.out, HF.out _, HZ.out _, HT.out _⟩
              case measure => simp [intOf]; omega
          · go_wp2_with fail
            refine wp_region_below_tail 8 (by kernel_rfl) (by kernel_rfl) ?_
            simp only [List.take_succ_cons, List.take_zero, List.drop_succ_cons, List.drop_zero]
            repeat (quiet_step ((go_at_call 23; exact cF _ _)))
            refine wpQuiet_nil ?_
            rintro w7 ⟨pp, rfl⟩
            have tG := tch_regrown wr pp
            obtain ⟨W, hW⟩ : ∃ W, W = grow (redrawn wr pp.d) pp.os := ⟨_, rfl⟩
            rw [← hW] at tG ⊢
            clear hW
            have hc := append_f b _ _ W (fileB q) s (hD.no tG)
            rw [fileB_nm, d4_append (1 + p) f hq4] at hc
            have HZW := hZ.tch tG (fun h => h)
            have HTW := hT.trans' tG
            by_cases hfull : 1 + p < (D4 (1 + p) f).used + s.data.toList.length
            · rw [if_pos hfull] at hc
              have hcmp : 1 + (p : Int) - ((f) 0).bs.length - ((f) 1).bs.length - ((f) 2).bs.length - ((f) 3).bs.length < (s.size : Int) := by
                have := d4_used (1 + p) f
                have h2 : s.data.toList.length = s.size := by simp
                omega
              clear hfull cF
              go_wp2_with fail
              refine hc.mono ?_
              rintro x w8 ⟨rfl, h8, t8⟩
              have T8 : Tch (fun _ => False) w2 w8 := HTW.trans t8 (fun i hi hn => hn (Or.inl hi))
              have z8 := HZW.tch t8 (fun hn => hn (Or.inr rfl))
              obtain ⟨_, _, _, e3⟩ := HC.out w8 T8
              have hu' := hu
              clear hc t8 hT hD hZ HZW HTW tG c0 c1 c2 c3 cR
              have hz0 := z8.cell (k := 0) (by omega)
              have hz1 := z8.cell (k := 1) (by omega)
              have hz2 := z8.cell (k := 2) (by omega)
              have hz3 := z8.cell (k := 3) (by omega)
              have HU := d4_used (1 + p) (f)
              have hbz : ((f) 0).bs.length ≤ 300 ∧ ((f) 1).bs.length ≤ 300 ∧ ((f) 2).bs.length ≤ 300 ∧ ((f) 3).bs.length ≤ 300 := by omega
              obtain ⟨g, hg⟩ : ∃ g : Nat → Fl, g = (f) := ⟨_, rfl⟩
              simp only [← hg] at *
              clear hg
              have HF : Hid (∀ m, DF (w8.drewN m) b (D4 (1 + p) g) (fun i => i < w2.heap.size ∨ i = sb)) := fun m => h8.drewN m
              have HZ : Hid (∀ m, Four4 (w8.drewN m) sb (fun i => (((g) i).bs.length : Int))) := fun m => z8.tch ((Tch.refl (fun _ => False) _).drewN m) (fun h => h)
              have HT : Hid (∀ m, Tch (fun _ => False) w2 (w8.drewN m)) := fun m => T8.drewN m
              have hfr : ((D4 (1 + p) g).cap : Int) - (D4 (1 + p) g).used = 1 + (p : Int) - ((g) 0).bs.length - ((g) 1).bs.length - ((g) 2).bs.length - ((g) 3).bs.length := by rw [HU]; show ((1 + p : Nat) : Int) - _ = _; omega
              have hfz : 0 ≤ 1 + (p : Int) - ((g) 0).bs.length - ((g) 1).bs.length - ((g) 2).bs.length - ((g) 3).bs.length := by omega
              have HUU : Hid ((D4 (1 + p) g).used ≤ 1 + p) := hu'
              obtain ⟨q0, q1, q2, q3⟩ := hbz
              clear h8 z8 T8 HU hu'
              go_wp2_with fail
              go_quiet (fail)
              have hfree := fun m => free_f b _ _ _ (HF.out m)
              simp only [hfr] at hfree
              clear hfr hz0 hz1 hz2 hz3
              go_wp2_with fail
              refine (hfree _).mono ?_
              rintro x w9 ⟨rfl, m9, hw9⟩
              subst hw9
              simp only [World.drewN_drewN]
              go_wp2
              go_roundw
              case rel => exact ⟨k + 1, g, by go_num, by omega, by go_num, HUU.out, HF.out _, HZ.out _, HT.out _⟩
              case measure => simp [intOf]; omega
            · rw [if_neg hfull] at hc
              have hcmp : ¬ 1 + (p : Int) - ((f) 0).bs.length - ((f) 1).bs.length - ((f) 2).bs.length - ((f) 3).bs.length < (s.size : Int) := by
                have := d4_used (1 + p) f
                have h2 : s.data.toList.length = s.size := by simp
                omega
              have hu' : (D4 (1 + p) (updF f q ⟨(f q).bs ++ s.data.toList, (f q).la⟩)).used ≤ 1 + p := by
                rw [used_upd (1 + p) f hq4]
                have h2 : s.data.toList.length = s.size := by simp
                have h3 := used_ge (1 + p) f hq4
                simp only [List.length_append]
                omega
              have hql := used_ge (1 + p) f hq4
              have hss : (s.size : Int) ≤ 300 := by
                have := d4_used (1 + p) f
                omega
              have hql2 : ((f q).bs.length : Int) ≤ 300 := by omega
              clear hfull cF
              go_wp2_with fail
              refine hc.mono ?_
              rintro x w8 ⟨rfl, h8, t8⟩
              have T8 : Tch (fun _ => False) w2 w8 := HTW.trans t8 (fun i hi hn => hn (Or.inl hi))
              have z8 := HZW.tch t8 (fun hn => hn (Or.inr rfl))
              obtain ⟨_, _, _, e3⟩ := HC.out w8 T8
              have zq := z8.cell hq4
              have zf := z8.fz q
              clear hc t8 hT hD hZ HZW HTW tG c0 c1 c2 c3 cR
              go_wp2_with fail
              go_region
              have h9 := h8.tch (S := fun i => i = sb) (w' := (w8.setCell ⟨sb, q, none⟩ (.int .i64 (((f q).bs.length : Int) + s.size))).drew) ((Tch.setCell (fun i => i = sb) w8 ⟨sb, q, none⟩ _ rfl).drew) (fun i _ hi => Or.inr hi)
              have z9' : Four4 (w8.setCell ⟨sb, q, none⟩ (.int .i64 (((f q).bs.length : Int) + s.size))) sb (fun i => (((updF f q ⟨(f q).bs ++ s.data.toList, (f q).la⟩) i).bs.length : Int)) := by
                refine (z8.set hq4 _).congr (fun i _ => ?_)
                by_cases e : i = q
                · simp [e, updF]
                · simp [e, updF]
              have z9 : Four4 (w8.setCell ⟨sb, q, none⟩ (.int .i64 (((f q).bs.length : Int) + s.size))).drew sb (fun i => (((updF f q ⟨(f q).bs ++ s.data.toList, (f q).la⟩) i).bs.length : Int)) := z9'
              clear z9'
              have T9 : Tch (fun _ => False) w2 (w8.setCell ⟨sb, q, none⟩ (.int .i64 (((f q).bs.length : Int) + s.size))).drew := (T8.setNew ⟨sb, q, none⟩ _ hsn).drew
              clear zq zf e3
              obtain ⟨W9, hW9⟩ : ∃ W9, W9 = (w8.setCell ⟨sb, q, none⟩ (.int .i64 (((f q).bs.length : Int) + s.size))).drew := ⟨_, rfl⟩
              rw [← hW9] at h9 z9 T9 ⊢
              clear hW9 h8 z8 T8
              have hz0 := z9.cell (k := 0) (by omega)
              have hz1 := z9.cell (k := 1) (by omega)
              have hz2 := z9.cell (k := 2) (by omega)
              have hz3 := z9.cell (k := 3) (by omega)
              have HU := d4_used (1 + p) (updF f q ⟨(f q).bs ++ s.data.toList, (f q).la⟩)
              have hbz : ((updF f q ⟨(f q).bs ++ s.data.toList, (f q).la⟩) 0).bs.length ≤ 300 ∧ ((updF f q ⟨(f q).bs ++ s.data.toList, (f q).la⟩) 1).bs.length ≤ 300 ∧ ((updF f q ⟨(f q).bs ++ s.data.toList, (f q).la⟩) 2).bs.length ≤ 300 ∧ ((updF f q ⟨(f q).bs ++ s.data.toList, (f q).la⟩) 3).bs.length ≤ 300 := by omega
              obtain ⟨g, hg⟩ : ∃ g : Nat → Fl, g = (updF f q ⟨(f q).bs ++ s.data.toList, (f q).la⟩) := ⟨_, rfl⟩
              simp only [← hg] at *
              clear hg
              have HF : Hid (∀ m, DF (W9.drewN m) b (D4 (1 + p) g) (fun i => i < w2.heap.size ∨ i = sb)) := fun m => h9.drewN m
              have HZ : Hid (∀ m, Four4 (W9.drewN m) sb (fun i => (((g) i).bs.length : Int))) := fun m => z9.tch ((Tch.refl (fun _ => False) _).drewN m) (fun h => h)
              have HT : Hid (∀ m, Tch (fun _ => False) w2 (W9.drewN m)) := fun m => T9.drewN m
              have hfr : ((D4 (1 + p) g).cap : Int) - (D4 (1 + p) g).used = 1 + (p : Int) - ((g) 0).bs.length - ((g) 1).bs.length - ((g) 2).bs.length - ((g) 3).bs.length := by rw [HU]; show ((1 + p : Nat) : Int) - _ = _; omega
              have hfz : 0 ≤ 1 + (p : Int) - ((g) 0).bs.length - ((g) 1).bs.length - ((g) 2).bs.length - ((g) 3).bs.length := by omega
              have HUU : Hid ((D4 (1 + p) g).used ≤ 1 + p) := hu'
              obtain ⟨q0, q1, q2, q3⟩ := hbz
              clear h9 z9 T9 HU hu'
              go_wp2_with fail
              go_quiet (fail)
              have hfree := fun m => free_f b _ _ _ (HF.out m)
              simp only [hfr] at hfree
              clear hfr hz0 hz1 hz2 hz3
              go_wp2_with fail
              refine (hfree _).mono ?_
              rintro x w9 ⟨rfl, m9, hw9⟩
              subst hw9
              simp only [World.drewN_drewN]
              go_wp2
              go_roundw
              case rel => exact ⟨k + 1, g, by go_num, by omega, by go_num, HUU.out, HF.out _, HZ.out _, HT.out _⟩
              case measure => simp [intOf]; omega
          · have hql := used_ge (1 + p) f hq4
            have hql2 : ((f q).bs.length : Int) ≤ 300 := by have := d4_used (1 + p) f; omega
            have zq := hZ.cell hq4
            have hpk : ∀ W, Calls Try.prog 8 #[.int .i64 nn, .int .i64 (((f q).bs.length : Int) + 1)] W fun x w' => x = .returned (.int .i64 (pk nn (((f q).bs.length : Int) + 1))) ∧ w' = W := fun W => pick_any nn _ W bn.1 bn.2 (by omega) (by omega)
            have hrn := pk_rng nn (((f q).bs.length : Int) + 1) (by omega)
            obtain ⟨x, hx⟩ : ∃ x : Nat, pk nn (((f q).bs.length : Int) + 1) = x := ⟨(pk nn (((f q).bs.length : Int) + 1)).toNat, by omega⟩
            rw [hx] at hrn hpk
            have hxl : x ≤ (f q).bs.length := by omega
            clear hx hrn cF cR
            have HP : Hid (∀ m, DF (wr.drewN m) b (D4 (1 + p) f) (fun i => i < w2.heap.size ∨ i = sb) ∧ Four4 (wr.drewN m) sb (fun i => (((f) i).bs.length : Int)) ∧ Tch (fun _ => False) w2 (wr.drewN m)) := fun m => ⟨hD.drewN m, hZ.tch ((Tch.refl (fun _ => False) _).drewN m) (fun h => h), hT.drewN m⟩
            clear hD hZ hT
            go_wp2_with fail
            go_quiet ((go_at_call 8; exact Calls.quiet_of_same (hpk _)))
            go_wp2_with fail
            refine (file_k hq4 _).mono ?_
            rintro y w7 ⟨rfl, t7⟩
            obtain ⟨hD, hZ, hT⟩ := HP.out _
            have hc := trunc_f b _ _ w7 (fileB q) x (hD.no t7)
            rw [fileB_nm, d4_trunc (1 + p) f hq4 hxl] at hc
            have hu' : (D4 (1 + p) (updF f q ⟨(f q).bs.take x, min (f q).la x⟩)).used ≤ 1 + p := by
              rw [used_upd (1 + p) f hq4]
              simp only [List.length_take]
              omega
            go_wp2_with fail
            refine hc.mono ?_
            rintro y w8 ⟨rfl, h8, t8⟩
            have T8 : Tch (fun _ => False) w2 w8 := (hT.trans' t7).trans t8 (fun i hi hn => hn (Or.inl hi))
            have z8 := (hZ.tch t7 (fun h => h)).tch t8 (fun hn => hn (Or.inr rfl))
            have zq := z8.cell hq4
            have zf := z8.fz q
            clear hc t8 hT hD hZ t7 c0 c1 c2 c3 HP hpk
            have h9 := h8.tch (S := fun i => i = sb) (w' := w8.setCell ⟨sb, q, none⟩ (.int .i64 (x : Int))) (Tch.setCell (fun i => i = sb) w8 ⟨sb, q, none⟩ _ rfl) (fun i _ hi => Or.inr hi)
            have z9 : Four4 (w8.setCell ⟨sb, q, none⟩ (.int .i64 (x : Int))) sb (fun i => (((updF f q ⟨(f q).bs.take x, min (f q).la x⟩) i).bs.length : Int)) := by
              refine (z8.set hq4 _).congr (fun i _ => ?_)
              by_cases e : i = q
              · simp [e, updF]; omega
              · simp [e, updF]
            have T9 : Tch (fun _ => False) w2 (w8.setCell ⟨sb, q, none⟩ (.int .i64 (x : Int))) := T8.setNew ⟨sb, q, none⟩ _ hsn
            go_wp2_with fail
            clear zq zf
            obtain ⟨W9, hW9⟩ : ∃ W9, W9 = w8.setCell ⟨sb, q, none⟩ (.int .i64 (x : Int)) := ⟨_, rfl⟩
            rw [← hW9] at h9 z9 T9 ⊢
            clear hW9 h8 z8 T8
            have hz0 := z9.cell (k := 0) (by omega)
            have hz1 := z9.cell (k := 1) (by omega)
            have hz2 := z9.cell (k := 2) (by omega)
            have hz3 := z9.cell (k := 3) (by omega)
            have HU := d4_used (1 + p) (updF f q ⟨(f q).bs.take x, min (f q).la x⟩)
            have hbz : ((updF f q ⟨(f q).bs.take x, min (f q).la x⟩) 0).bs.length ≤ 300 ∧ ((updF f q ⟨(f q).bs.take x, min (f q).la x⟩) 1).bs.length ≤ 300 ∧ ((updF f q ⟨(f q).bs.take x, min (f q).la x⟩) 2).bs.length ≤ 300 ∧ ((updF f q ⟨(f q).bs.take x, min (f q).la x⟩) 3).bs.length ≤ 300 := by omega
            obtain ⟨g, hg⟩ : ∃ g : Nat → Fl, g = (updF f q ⟨(f q).bs.take x, min (f q).la x⟩) := ⟨_, rfl⟩
            simp only [← hg] at *
            clear hg
            have HF : Hid (∀ m, DF (W9.drewN m) b (D4 (1 + p) g) (fun i => i < w2.heap.size ∨ i = sb)) := fun m => h9.drewN m
            have HZ : Hid (∀ m, Four4 (W9.drewN m) sb (fun i => (((g) i).bs.length : Int))) := fun m => z9.tch ((Tch.refl (fun _ => False) _).drewN m) (fun h => h)
            have HT : Hid (∀ m, Tch (fun _ => False) w2 (W9.drewN m)) := fun m => T9.drewN m
            have hfr : ((D4 (1 + p) g).cap : Int) - (D4 (1 + p) g).used = 1 + (p : Int) - ((g) 0).bs.length - ((g) 1).bs.length - ((g) 2).bs.length - ((g) 3).bs.length := by rw [HU]; show ((1 + p : Nat) : Int) - _ = _; omega
            have hfz : 0 ≤ 1 + (p : Int) - ((g) 0).bs.length - ((g) 1).bs.length - ((g) 2).bs.length - ((g) 3).bs.length := by omega
            have HUU : Hid ((D4 (1 + p) g).used ≤ 1 + p) := hu'
            obtain ⟨q0, q1, q2, q3⟩ := hbz
            clear h9 z9 T9 HU hu'
            go_wp2_with fail
            go_quiet (fail)
            have hfree := fun m => free_f b _ _ _ (HF.out m)
            simp only [hfr] at hfree
            clear hfr hz0 hz1 hz2 hz3
            go_wp2_with fail
            refine (hfree _).mono ?_
            rintro x w9 ⟨rfl, m9, hw9⟩
            subst hw9
            simp only [World.drewN_drewN]
            go_wp2
            go_roundw
            case rel => exact ⟨k + 1, g, by go_num, by omega, by go_num, HUU.out, HF.out _, HZ.out _, HT.out _⟩
            case measure => simp [intOf]; omega
          · have hql := used_ge (1 + p) f hq4
            have hu' : (D4 (1 + p) (updF f q e0)).used ≤ 1 + p := by
              rw [used_upd (1 + p) f hq4]
              simp only [e0, List.length_nil]
              omega
            clear cF cR
            go_wp2_with fail
            refine (file_k hq4 _).mono ?_
            rintro y w7 ⟨rfl, t7⟩
            have hc := remove_f b _ _ w7 (fileB q) (hD.no t7)
            rw [fileB_nm, d4_remove (1 + p) f hq4] at hc
            go_wp2_with fail
            refine hc.mono ?_
            rintro y w71 ⟨rfl, h71, t71⟩
            have T71 : Tch (fun _ => False) w2 w71 := (hT.trans' t7).trans t71 (fun i hi hn => hn (Or.inl hi))
            have z71 := (hZ.tch t7 (fun h => h)).tch t71 (fun hn => hn (Or.inr rfl))
            clear hc t7 t71 hT hD hZ c0 c1 c2 c3
            go_wp2_with fail
            refine (file_k hq4 _).mono ?_
            rintro y w72 ⟨rfl, t72⟩
            have hl4 : (delL (nmF q) (fourL f)).length < maxLen := by have := length_delL_le (nmF q) (fourL f); have h4 : (fourL f).length = 4 := rfl; unfold maxLen; omega
            have hc := create_f b _ _ w72 (fileB q) (h71.no t72) hl4
            rw [fileB_nm, d4_again (1 + p) f hq4] at hc
            go_wp2_with fail
            refine hc.mono ?_
            rintro y w8 ⟨rfl, h8, t8⟩
            have T8 : Tch (fun _ => False) w2 w8 := (T71.trans' t72).trans t8 (fun i hi hn => hn (Or.inl hi))
            have z8 := (z71.tch t72 (fun h => h)).tch t8 (fun hn => hn (Or.inr rfl))
            have zq := z8.cell hq4
            have zf := z8.fz q
            clear hc t8 t72 h71 T71 z71 hl4
            have h9 := h8.tch (S := fun i => i = sb) (w' := w8.setCell ⟨sb, q, none⟩ (.int .i64 0)) (Tch.setCell (fun i => i = sb) w8 ⟨sb, q, none⟩ _ rfl) (fun i _ hi => Or.inr hi)
            have z9 : Four4 (w8.setCell ⟨sb, q, none⟩ (.int .i64 0)) sb (fun i => (((updF f q e0) i).bs.length : Int)) := by
              refine (z8.set hq4 _).congr (fun i _ => ?_)
              by_cases e : i = q
              · simp [e, updF, e0]
              · simp [e, updF]
            have T9 : Tch (fun _ => False) w2 (w8.setCell ⟨sb, q, none⟩ (.int .i64 0)) := T8.setNew ⟨sb, q, none⟩ _ hsn
            go_wp2_with fail
            clear zq zf
            obtain ⟨W9, hW9⟩ : ∃ W9, W9 = w8.setCell ⟨sb, q, none⟩ (.int .i64 0) := ⟨_, rfl⟩
            rw [← hW9] at h9 z9 T9 ⊢
            clear hW9 h8 z8 T8
            have hz0 := z9.cell (k := 0) (by omega)
            have hz1 := z9.cell (k := 1) (by omega)
            have hz2 := z9.cell (k := 2) (by omega)
            have hz3 := z9.cell (k := 3) (by omega)
            have HU := d4_used (1 + p) (updF f q e0)
            have hbz : ((updF f q e0) 0).bs.length ≤ 300 ∧ ((updF f q e0) 1).bs.length ≤ 300 ∧ ((updF f q e0) 2).bs.length ≤ 300 ∧ ((updF f q e0) 3).bs.length ≤ 300 := by omega
            obtain ⟨g, hg⟩ : ∃ g : Nat → Fl, g = (updF f q e0) := ⟨_, rfl⟩
            simp only [← hg] at *
            clear hg
            have HF : Hid (∀ m, DF (W9.drewN m) b (D4 (1 + p) g) (fun i => i < w2.heap.size ∨ i = sb)) := fun m => h9.drewN m
            have HZ : Hid (∀ m, Four4 (W9.drewN m) sb (fun i => (((g) i).bs.length : Int))) := fun m => z9.tch ((Tch.refl (fun _ => False) _).drewN m) (fun h => h)
            have HT : Hid (∀ m, Tch (fun _ => False) w2 (W9.drewN m)) := fun m => T9.drewN m
            have hfr : ((D4 (1 + p) g).cap : Int) - (D4 (1 + p) g).used = 1 + (p : Int) - ((g) 0).bs.length - ((g) 1).bs.length - ((g) 2).bs.length - ((g) 3).bs.length := by rw [HU]; show ((1 + p : Nat) : Int) - _ = _; omega
            have hfz : 0 ≤ 1 + (p : Int) - ((g) 0).bs.length - ((g) 1).bs.length - ((g) 2).bs.length - ((g) 3).bs.length := by omega
            have HUU : Hid ((D4 (1 + p) g).used ≤ 1 + p) := hu'
            obtain ⟨q0, q1, q2, q3⟩ := hbz
            clear h9 z9 T9 HU hu'
            go_wp2_with fail
            go_quiet (fail)
            have hfree := fun m => free_f b _ _ _ (HF.out m)
            simp only [hfr] at hfree
            clear hfr hz0 hz1 hz2 hz3
            go_wp2_with fail
            refine (hfree _).mono ?_
            rintro x w9 ⟨rfl, m9, hw9⟩
            subst hw9
            simp only [World.drewN_drewN]
            go_wp2
            go_roundw
            case rel => exact ⟨k + 1, g, by go_num, by omega, by go_num, HUU.out, HF.out _, HZ.out _, HT.out _⟩
            case measure => simp [intOf]; omega
          · clear cF cR
            go_wp2_with fail
            refine (pick_any nn 4 _ bn.1 bn.2 (by omega) (by omega)).mono ?_
            rintro y w7 ⟨rfl, hw7⟩
            subst hw7
            have hrn := pk_rng nn 4 (by omega)
            obtain ⟨j, hj⟩ : ∃ j : Nat, pk nn 4 = j := ⟨(pk nn 4).toNat, by omega⟩
            rw [hj] at hrn ⊢
            have hj4 : j < 4 := by omega
            clear hj hrn
            go_wp2_with fail
            refine (file_k hq4 _).mono ?_
            rintro y w71 ⟨rfl, t71⟩
            go_wp2_with fail
            refine (file_k hj4 _).mono ?_
            rintro y w72 ⟨rfl, t72⟩
            have hc := rename_f b _ _ w72 (fileB q) (fileB j) ((hD.no t71).no t72)
            rw [fileB_nm, fileB_nm] at hc
            have T72 := (hT.trans' t71).trans' t72
            have z72 := (hZ.tch t71 (fun h => h)).tch t72 (fun h => h)
            clear t71 t72 hT hD hZ c0 c1 c2 c3
            by_cases hqj : q = j
            · subst hqj
              rw [d4_same (1 + p) f hq4] at hc
              go_wp2_with fail
              refine hc.mono ?_
              rintro y w8 ⟨rfl, h8, t8⟩
              have T8 : Tch (fun _ => False) w2 w8 := T72.trans t8 (fun i hi hn => hn (Or.inl hi))
              have z8 := z72.tch t8 (fun hn => hn (Or.inr rfl))
              have hu' := hu
              clear hc t8 T72 z72
              have hz0 := z8.cell (k := 0) (by omega)
              have hz1 := z8.cell (k := 1) (by omega)
              have hz2 := z8.cell (k := 2) (by omega)
              have hz3 := z8.cell (k := 3) (by omega)
              have HU := d4_used (1 + p) (f)
              have hbz : ((f) 0).bs.length ≤ 300 ∧ ((f) 1).bs.length ≤ 300 ∧ ((f) 2).bs.length ≤ 300 ∧ ((f) 3).bs.length ≤ 300 := by omega
              obtain ⟨g, hg⟩ : ∃ g : Nat → Fl, g = (f) := ⟨_, rfl⟩
              simp only [← hg] at *
              clear hg
              have HF : Hid (∀ m, DF (w8.drewN m) b (D4 (1 + p) g) (fun i => i < w2.heap.size ∨ i = sb)) := fun m => h8.drewN m
              have HZ : Hid (∀ m, Four4 (w8.drewN m) sb (fun i => (((g) i).bs.length : Int))) := fun m => z8.tch ((Tch.refl (fun _ => False) _).drewN m) (fun h => h)
              have HT : Hid (∀ m, Tch (fun _ => False) w2 (w8.drewN m)) := fun m => T8.drewN m
              have hfr : ((D4 (1 + p) g).cap : Int) - (D4 (1 + p) g).used = 1 + (p : Int) - ((g) 0).bs.length - ((g) 1).bs.length - ((g) 2).bs.length - ((g) 3).bs.length := by rw [HU]; show ((1 + p : Nat) : Int) - _ = _; omega
              have hfz : 0 ≤ 1 + (p : Int) - ((g) 0).bs.length - ((g) 1).bs.length - ((g) 2).bs.length - ((g) 3).bs.length := by omega
              have HUU : Hid ((D4 (1 + p) g).used ≤ 1 + p) := hu'
              obtain ⟨q0, q1, q2, q3⟩ := hbz
              clear h8 z8 T8 HU hu'
              go_wp2_with fail
              go_quiet (fail)
              have hfree := fun m => free_f b _ _ _ (HF.out m)
              simp only [hfr] at hfree
              clear hfr hz0 hz1 hz2 hz3
              go_wp2_with fail
              refine (hfree _).mono ?_
              rintro x w9 ⟨rfl, m9, hw9⟩
              subst hw9
              simp only [World.drewN_drewN]
              go_wp2
              go_roundw
              case rel => exact ⟨k + 1, g, by go_num, by omega, by go_num, HUU.out, HF.out _, HZ.out _, HT.out _⟩
              case measure => simp [intOf]; omega
            · rw [d4_rename (1 + p) f hq4 hj4 hqj] at hc
              have hjq : ¬ (j : Int) = (q : Int) := by omega
              have hjqb : ((j : Int) != (q : Int)) = true := by simpa using hjq
              have hql := used_ge (1 + p) f hq4
              have hjl := used_ge (1 + p) f hj4
              have hu' : (D4 (1 + p) (updF (updF f j (f q)) q e0)).used ≤ 1 + p := by
                rw [used_upd (1 + p) _ hq4, used_upd (1 + p) f hj4, updF_other f _ hqj]
                have := used_two (1 + p) f hq4 hj4 hqj
                simp only [e0, List.length_nil]
                omega
              go_wp2_with fail
              refine hc.mono ?_
              rintro y w73 ⟨rfl, h73, t73⟩
              have T73 : Tch (fun _ => False) w2 w73 := T72.trans t73 (fun i hi hn => hn (Or.inl hi))
              have z73 := z72.tch t73 (fun hn => hn (Or.inr rfl))
              clear hc t73 T72 z72
              go_wp2_with fail
              refine (file_k hq4 _).mono ?_
              rintro y w74 ⟨rfl, t74⟩
              have hl4 : (putL (nmF j) (f q) (delL (nmF q) (delL (nmF j) (fourL f)))).length < maxLen := by
                have h1 := length_putL_le (nmF j) (f q) (delL (nmF q) (delL (nmF j) (fourL f)))
                have h2 := length_delL_le (nmF q) (delL (nmF j) (fourL f))
                have h3 := length_delL_le (nmF j) (fourL f)
                have h4 : (fourL f).length = 4 := rfl
                unfold maxLen; omega
              have hc := create_f b _ _ w74 (fileB q) (h73.no t74) hl4
              rw [fileB_nm, d4_anew (1 + p) f hq4 hj4 hqj] at hc
              go_wp2_with fail
              refine hc.mono ?_
              rintro y w8 ⟨rfl, h8, t8⟩
              have T8 : Tch (fun _ => False) w2 w8 := (T73.trans' t74).trans t8 (fun i hi hn => hn (Or.inl hi))
              have z8 := (z73.tch t74 (fun h => h)).tch t8 (fun hn => hn (Or.inr rfl))
              have zq := z8.cell hq4
              have zf := z8.fz q
              have zj := z8.cell hj4
              have zg := z8.fz j
              clear hc t8 t74 h73 T73 z73 hl4
              have tS : Tch (fun i => i = sb) w8 ((w8.setCell ⟨sb, j, none⟩ (.int .i64 ((f q).bs.length : Int))).setCell ⟨sb, q, none⟩ (.int .i64 0)) := (Tch.setCell (fun i => i = sb) w8 ⟨sb, j, none⟩ _ rfl).setCellR _ _ rfl
              have h9 := h8.tch (S := fun i => i = sb) tS (fun i _ hi => Or.inr hi)
              have z9 : Four4 ((w8.setCell ⟨sb, j, none⟩ (.int .i64 ((f q).bs.length : Int))).setCell ⟨sb, q, none⟩ (.int .i64 0)) sb (fun i => (((updF (updF f j (f q)) q e0) i).bs.length : Int)) := by
                refine ((z8.set hj4 _).set hq4 _).congr (fun i _ => ?_)
                by_cases e : i = q
                · simp [e, updF, e0]
                · by_cases e2 : i = j
                  · subst e2
                    simp only [if_neg e, if_true, updF_other _ _ e, updF_same]
                  · simp [e, e2, updF]
              have T9 : Tch (fun _ => False) w2 ((w8.setCell ⟨sb, j, none⟩ (.int .i64 ((f q).bs.length : Int))).setCell ⟨sb, q, none⟩ (.int .i64 0)) := (T8.setNew ⟨sb, j, none⟩ _ hsn).setNew ⟨sb, q, none⟩ _ hsn
              go_wp2_with fail
              clear zq zf zj zg
              obtain ⟨W9, hW9⟩ : ∃ W9, W9 = (w8.setCell ⟨sb, j, none⟩ (.int .i64 ((f q).bs.length : Int))).setCell ⟨sb, q, none⟩ (.int .i64 0) := ⟨_, rfl⟩
              rw [← hW9] at h9 z9 T9 ⊢
              clear hW9 h8 z8 T8 tS
              have hz0 := z9.cell (k := 0) (by omega)
              have hz1 := z9.cell (k := 1) (by omega)
              have hz2 := z9.cell (k := 2) (by omega)
              have hz3 := z9.cell (k := 3) (by omega)
              have HU := d4_used (1 + p) (updF (updF f j (f q)) q e0)
              have hbz : ((updF (updF f j (f q)) q e0) 0).bs.length ≤ 300 ∧ ((updF (updF f j (f q)) q e0) 1).bs.length ≤ 300 ∧ ((updF (updF f j (f q)) q e0) 2).bs.length ≤ 300 ∧ ((updF (updF f j (f q)) q e0) 3).bs.length ≤ 300 := by omega
              obtain ⟨g, hg⟩ : ∃ g : Nat → Fl, g = (updF (updF f j (f q)) q e0) := ⟨_, rfl⟩
              simp only [← hg] at *
              clear hg
              have HF : Hid (∀ m, DF (W9.drewN m) b (D4 (1 + p) g) (fun i => i < w2.heap.size ∨ i = sb)) := fun m => h9.drewN m
              have HZ : Hid (∀ m, Four4 (W9.drewN m) sb (fun i => (((g) i).bs.length : Int))) := fun m => z9.tch ((Tch.refl (fun _ => False) _).drewN m) (fun h => h)
              have HT : Hid (∀ m, Tch (fun _ => False) w2 (W9.drewN m)) := fun m => T9.drewN m
              have hfr : ((D4 (1 + p) g).cap : Int) - (D4 (1 + p) g).used = 1 + (p : Int) - ((g) 0).bs.length - ((g) 1).bs.length - ((g) 2).bs.length - ((g) 3).bs.length := by rw [HU]; show ((1 + p : Nat) : Int) - _ = _; omega
              have hfz : 0 ≤ 1 + (p : Int) - ((g) 0).bs.length - ((g) 1).bs.length - ((g) 2).bs.length - ((g) 3).bs.length := by omega
              have HUU : Hid ((D4 (1 + p) g).used ≤ 1 + p) := hu'
              obtain ⟨q0, q1, q2, q3⟩ := hbz
              clear h9 z9 T9 HU hu'
              go_wp2_with fail
              go_quiet (fail)
              have hfree := fun m => free_f b _ _ _ (HF.out m)
              simp only [hfr] at hfree
              clear hfr hz0 hz1 hz2 hz3
              go_wp2_with fail
              refine (hfree _).mono ?_
              rintro x w9 ⟨rfl, m9, hw9⟩
              subst hw9
              simp only [World.drewN_drewN]
              go_wp2
              go_roundw
              case rel => exact ⟨k + 1, g, by go_num, by omega, by go_num, HUU.out, HF.out _, HZ.out _, HT.out _⟩
              case measure => simp [intOf]; omega
        · obtain rfl : k = len := by omega
          have hl := list_any
          go_wp2_with fail
          obtain ⟨σ, hK0, hF0⟩ := hD
          refine (list_any b _ σ _ hK0 (by show (4 : Nat) * 16 ≤ _; omega)).mono ?_
          rintro x w9 ⟨v, rfl, hrow, t9⟩
          obtain ⟨ao9, cp9, hv9⟩ := slice_of hrow
          subst hv9
          have hl4 : (D4 (1 + p) f).m.length = 4 := rfl
          rw [hl4]
          have T9 := hT.trans' t9
          clear hl hrow t9 hT hK0 hF0 hZ hl4
          go_wp2
          go_ret
          exact ⟨rfl, T9⟩
end Go.Proofs.Ytodkefbaandeiaa
