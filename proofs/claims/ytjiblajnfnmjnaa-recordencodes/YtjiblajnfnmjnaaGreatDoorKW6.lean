import Derived.Test.YtjiblajnfnmjnaaGreatDoorDPk5
import Derived.Test.YtjiblajnfnmjnaaGreatDoorDPk9
import Derived.Test.YtjiblajnfnmjnaaGreatDoorDPk14
import Derived.Test.YtjiblajnfnmjnaaGreatDoorKT
import Derived.Maps.AppendAt
import Derived.Test.YtjiblajnfnmjnaaGreatDoorRW2
set_option maxHeartbeats 16000000
set_option maxRecDepth 100000
namespace Go.Proofs.YtjiblajnfnmjnaaGreatDoor.C
open Go.RowKit Go Go.Sort
theorem tabs_snoc (L : List Tbl) (k : Nat) (hk : k < L.length) : ((L.take (k + 1)).map tabB).flatMap (fun x => 32 :: bl x) = ((L.take k).map tabB).flatMap (fun x => 32 :: bl x) ++ (32 :: bl (tabB L[k])) := by
  rw [(List.take_append_getElem hk).symm, List.map_append, List.flatMap_append]
  simp
theorem joinTail_flat (xs : List ByteArray) : Lib.joinTail [32] (xs.map bl) = xs.flatMap (fun x => 32 :: bl x) := by
  unfold Lib.joinTail
  induction xs with
  | nil => rfl
  | cons x xs ih =>
    simp only [List.map_cons, List.flatten_cons, List.flatMap_cons] at ih ⊢
    rw [ih]; rfl
theorem rprint_15 (r : Rc) (s : Sk) (F : Nat → Prop) (w : World) (hi : RI r) (h : RW w F r s) (hr : RR r) (hk : r.k = 15) : Calls Tryz.prog 21 #[rV r s] w fun x w' => x = .returned (.string (recB r)) ∧ Tch (fun _ => False) w w' := by
  obtain ⟨g1, g2, g3⟩ : (1 ≤ r.x ∧ r.x ≤ 2147483648) ∧ (1 ≤ r.t ∧ r.t ≤ 2147483648) ∧ LDp r.tbs r.t := by have := hr.1; rw [hk] at this; exact this
  obtain ⟨n, hn⟩ : ∃ n, n = s.P.length := ⟨_, rfl⟩
  have hnr : n = r.tbs.length := by rw [hn, ← h.eq, List.length_map]
  have hn16 : n ≤ 16 := by have := g3.len; omega
  have HN : Hid (n = s.P.length ∧ n = r.tbs.length) := ⟨hn, hnr⟩
  have HPL : Hid (∀ k (hk : k < s.P.length), ∃ hk' : k < r.tbs.length, s.P[k].1 = r.tbs[k]) := fun k hk => by
    have hk' : k < r.tbs.length := by omega
    refine ⟨hk', ?_⟩
    have : r.tbs[k]? = (s.P.map Prod.fst)[k]? := by rw [h.eq]
    rw [List.getElem?_map, List.getElem?_eq_getElem hk, List.getElem?_eq_getElem hk'] at this
    simpa using this.symm
  have HRT : Hid (∀ t ∈ r.tbs, RT t) := g3.rt
  have HTL : Hid (∀ W, Tch (fun _ => False) w W → TL W F s.to s.P) := fun W t => h.tbs.no t
  obtain ⟨X, hX⟩ : ∃ V, V = itoB r.x := ⟨_, rfl⟩
  have zX : X.size ≤ 22 := by rw [hX]; exact ito_size _ (by omega)
  have QX : Hid (∀ W, Calls Tryz.prog 50 #[.int .i64 r.x] W fun x w' => x = .returned (.string X) ∧ Tch (fun _ => False) W w') := fun W => by rw [hX]; exact told6 r.x (by omega) (by omega) W
  obtain ⟨T, hT⟩ : ∃ V, V = itoB r.t := ⟨_, rfl⟩
  have zT : T.size ≤ 22 := by rw [hT]; exact ito_size _ (by omega)
  have QT : Hid (∀ W, Calls Tryz.prog 50 #[.int .i64 r.t] W fun x w' => x = .returned (.string T) ∧ Tch (fun _ => False) W w') := fun W => by rw [hT]; exact told6 r.t (by omega) (by omega) W
  obtain ⟨S0, hS0⟩ : ∃ S0 : ByteArray, S0 = ⟨#[99, 104, 101, 99, 107, 112, 111, 105, 110, 116, 32, 110, 101, 120, 116, 32]⟩ ++ X ++ ⟨#[32, 116, 97, 98, 108, 101, 32]⟩ ++ T := ⟨_, rfl⟩
  have HZ0 : Hid (S0.size ≤ 80) := by
    show S0.size ≤ 80
    rw [hS0]
    simp only [size_app]
    have e1 : (⟨#[99, 104, 101, 99, 107, 112, 111, 105, 110, 116, 32, 110, 101, 120, 116, 32]⟩ : ByteArray).size = 16 := rfl
    have e2 : (⟨#[32, 116, 97, 98, 108, 101, 32]⟩ : ByteArray).size = 7 := rfl
    omega
  have HR : Hid (∀ S, bl S = bl S0 ++ (r.tbs.map tabB).flatMap (fun x => 32 :: bl x) → S = recB r) := fun S hS => by
    apply bl_eq
    unfold recB
    rw [hS, hS0, hk, hX, hT, show cls 15 = 10 from rfl]
    simp only [bl_app]
    rw [bl_joinS, ← joinTail_flat]
    simp only [wds, List.map_cons, List.cons_append, List.nil_append, Lib.join_cons]
    unfold Lib.joinTail
    simp [verbB, verbCells, spB, tableB, nextB, bl]
  obtain ⟨RB, hRB⟩ : ∃ RB, RB = recB r := ⟨_, rfl⟩
  rw [← hRB] at HR ⊢
  obtain ⟨w0, hw0⟩ : ∃ w0, w0 = w.alloc (.cells #[.int .i64 15, .int .i64 r.x, .int .i64 r.p, .int .i64 r.t, .slice s.oo r.o.length s.oc, .slice s.no r.n.length s.nc, .string r.nm, .int .i64 r.org, .int .i64 r.tb.id, .int .i64 r.tb.ver, .string r.tb.nm, .slice s.co r.tb.cols.length s.cc, .int .i64 r.tb.key, .slice s.to n s.tc] 37) := ⟨_, rfl⟩
  have t0 : Tch (fun _ => False) w w0 := by rw [hw0]; exact Tch.alloc _ _ _
  have b0 : w0.heap[w.heap.size]? = some (.cells #[.int .i64 15, .int .i64 r.x, .int .i64 r.p, .int .i64 r.t, .slice s.oo r.o.length s.oc, .slice s.no r.n.length s.nc, .string r.nm, .int .i64 r.org, .int .i64 r.tb.id, .int .i64 r.tb.ver, .string r.tb.nm, .slice s.co r.tb.cols.length s.cc, .int .i64 r.tb.key, .slice s.to n s.tc] 37 (0, 0)) := by rw [hw0]; exact heap_new w _
  have q1 := renc_ok r s F w0 hi (h.no t0) hr
  rw [rV, hk, ← hn] at q1
  rw [rV, hk, ← hn]
  obtain ⟨EB, hEB⟩ : ∃ EB, EB = bB (recL r) := ⟨_, rfl⟩
  rw [← hEB] at q1
  rw [hw0] at q1
  have HW0 : Hid (w0 = w.alloc (.cells #[.int .i64 15, .int .i64 r.x, .int .i64 r.p, .int .i64 r.t, .slice s.oo r.o.length s.oc, .slice s.no r.n.length s.nc, .string r.nm, .int .i64 r.org, .int .i64 r.tb.id, .int .i64 r.tb.ver, .string r.tb.nm, .slice s.co r.tb.cols.length s.cc, .int .i64 r.tb.key, .slice s.to n s.tc] 37)) := hw0
  have HT0 : Hid (Tch (fun _ => False) w w0) := t0
  have HK : Hid (∀ W, Tch (fun _ => False) w0 W → W.heap[w.heap.size]? = some (.cells #[.int .i64 15, .int .i64 r.x, .int .i64 r.p, .int .i64 r.t, .slice s.oo r.o.length s.oc, .slice s.no r.n.length s.nc, .string r.nm, .int .i64 r.org, .int .i64 r.tb.id, .int .i64 r.tb.ver, .string r.tb.nm, .slice s.co r.tb.cols.length s.cc, .int .i64 r.tb.key, .slice s.to n s.tc] 37 (0, 0))) := fun W t => (t.block _ (blk_lt b0) (fun h => h)).trans b0
  have HS0 : Hid (S0 = ⟨#[99, 104, 101, 99, 107, 112, 111, 105, 110, 116, 32, 110, 101, 120, 116, 32]⟩ ++ X ++ ⟨#[32, 116, 97, 98, 108, 101, 32]⟩ ++ T) := hS0
  clear h hi hr hk hw0 t0 b0 hRB hEB hX hT g1 g2 g3 hn hnr hS0
  go_enter Tryz.func21, Tryz.ntmps21
  go_wp2_with fail
  refine q1.mono ?_
  rintro x w1 ⟨rfl, t1⟩
  rw [← HW0.out] at t1
  obtain ⟨w2, hw2⟩ : ∃ w2, w2 = w1.alloc (.cells #[.string ⟨#[]⟩, .string ⟨#[98, 101, 103, 105, 110]⟩, .string ⟨#[112, 97, 114, 116]⟩, .string ⟨#[105, 110, 115, 101, 114, 116]⟩, .string ⟨#[117, 112, 100, 97, 116, 101]⟩, .string ⟨#[100, 101, 108, 101, 116, 101]⟩, .string ⟨#[114, 101, 108, 101, 97, 115, 101]⟩, .string ⟨#[98, 97, 99, 107]⟩, .string ⟨#[99, 111, 109, 109, 105, 116]⟩, .string ⟨#[97, 98, 111, 114, 116]⟩, .string ⟨#[112, 114, 101, 112, 97, 114, 101]⟩, .string ⟨#[99, 114, 101, 97, 116, 101]⟩, .string ⟨#[100, 114, 111, 112]⟩, .string ⟨#[119, 105, 100, 101, 110]⟩, .string ⟨#[101, 109, 112, 116, 121]⟩] 9) := ⟨_, rfl⟩
  have HT2 : Hid (Tch (fun _ => False) w0 w2) := by show Tch _ _ _; rw [hw2]; exact t1.allocR _
  have b2 := HK.out w2 HT2.out
  have y0 := blk_cell b2 0
  have y1 := blk_cell b2 1
  have y3 := blk_cell b2 3
  simp only [List.getElem?_toArray, List.getElem?_cons_succ, List.getElem?_cons_zero] at y0 y1 y3
  have k1 := cell_regrown y1
  have k3 := cell_regrown y3
  have c1 := fun (dd : Nat) (os : Array Obj) => regrown_calls (w := w2) (fun W _ => QX.out W) dd os
  have c2 := fun (dd : Nat) (os : Array Obj) => regrown_calls (w := w2) (fun W _ => QT.out W) dd os
  have HW2 : Hid (w2 = w1.alloc (.cells #[.string ⟨#[]⟩, .string ⟨#[98, 101, 103, 105, 110]⟩, .string ⟨#[112, 97, 114, 116]⟩, .string ⟨#[105, 110, 115, 101, 114, 116]⟩, .string ⟨#[117, 112, 100, 97, 116, 101]⟩, .string ⟨#[100, 101, 108, 101, 116, 101]⟩, .string ⟨#[114, 101, 108, 101, 97, 115, 101]⟩, .string ⟨#[98, 97, 99, 107]⟩, .string ⟨#[99, 111, 109, 109, 105, 116]⟩, .string ⟨#[97, 98, 111, 114, 116]⟩, .string ⟨#[112, 114, 101, 112, 97, 114, 101]⟩, .string ⟨#[99, 114, 101, 97, 116, 101]⟩, .string ⟨#[100, 114, 111, 112]⟩, .string ⟨#[119, 105, 100, 101, 110]⟩, .string ⟨#[101, 109, 112, 116, 121]⟩] 9)) := hw2
  rw [hw2] at y0
  clear q1 t1 b2 hw2
  go_wp2_with fail
  rw [← HW2.out]
  refine wp_region_quiet_below (by kernel_rfl) (by kernel_rfl) ?_
  quiet_step (fail)
  quiet_step (fail)
  quiet_step ((go_at_call 50; exact c1 _ _))
  quiet_step ((rw [if_neg (by omega)]; exact ⟨rfl, rfl⟩))
  quiet_step ((rw [if_neg (by omega)]; exact ⟨rfl, rfl⟩))
  quiet_step (fail)
  quiet_step (fail)
  quiet_step ((go_at_call 50; exact c2 _ _))
  quiet_step ((rw [if_neg (by omega)]; exact ⟨rfl, rfl⟩))
  quiet_step (fail)
  refine wpQuiet_nil ?_
  rintro w3 ⟨p, rfl⟩
  have HT3 : Hid (Tch (fun _ => False) w0 (grow (redrawn w2 p.d) p.os)) := HT2.out.trans' (Tch.regrown w2 p.d p.os)
  obtain ⟨W3, hW3⟩ : ∃ W3, W3 = grow (redrawn w2 p.d) p.os := ⟨_, rfl⟩
  rw [← hW3] at HT3 ⊢
  rw [← HS0.out]
  clear hW3 k1 k3 c1 c2 y0 y1 y3 HW2 zX zT
  go_wp2_with fail
  go_loopw [6, 7] (fun v i wr => ∃ (S : ByteArray) (k : Nat), v = .string S ∧ i = .int .i64 k ∧ k ≤ n ∧ Hid (bl S = bl S0 ++ ((r.tbs.take k).map tabB).flatMap (fun x => 32 :: bl x)) ∧ S.size ≤ 80 + 401 * k ∧ Hid (Tch (fun _ => False) w0 wr)) (fun _ i _ => n - (intOf i).toNat)
  case atStart => exact ⟨S0, 0, rfl, rfl, Nat.zero_le _, by show bl S0 = _; simp, HZ0.out, HT3⟩
  case round =>
    obtain ⟨S, k, rfl, rfl, hk, HS, hsz, HT⟩ := hrel
    have b3 := HK.out wr HT.out
    have y13 : wr.cell? ⟨w.heap.size, 13, none⟩ = some (.slice s.to n s.tc) := blk_cell b3 13
    have hTw := HT0.out.trans' HT.out
    clear b3
    by_cases hlt : (k : Int) < n
    · have hkP : k < s.P.length := by have := HN.out.1; omega
      obtain ⟨hkt, hpt⟩ := HPL.out k hkP
      have hTL := HTL.out wr hTw
      obtain ⟨g, o, e, c0, c1, c2, c3, c4⟩ := hTL.at k hkP
      obtain ⟨co, cc, hck⟩ := hTL.col k hkP
      obtain ⟨pp, hpp⟩ : ∃ pp, pp = s.P[k] := ⟨_, rfl⟩
      rw [← hpp] at c0 c1 c2 c3 c4 hck hpt
      rw [hck.eq] at c3
      obtain ⟨x, hx⟩ : ∃ x, x = pp.1 := ⟨_, rfl⟩
      rw [← hx] at c0 c1 c2 c3 c4 hpt
      have hcs : SL wr co (ccl x.cols) := by rw [hx]; exact hck.sl
      have hrt := HRT.out x (by rw [hpt]; exact List.getElem_mem hkt)
      obtain ⟨to', hto⟩ : ∃ to', to' = s.to := ⟨_, rfl⟩
      rw [← hto] at e y13
      subst e
      have q := rtableOf6 x co cc wr hcs hrt
      obtain ⟨TB, hTB⟩ : ∃ TB, TB = tabB x := ⟨_, rfl⟩
      have zTB : TB.size ≤ 400 := by rw [hTB]; exact tabB_size hrt
      rw [← hTB] at q
      have HSB : Hid (bl (S ++ ⟨#[32]⟩ ++ TB) = bl S0 ++ ((r.tbs.take (k + 1)).map tabB).flatMap (fun x => 32 :: bl x)) := by
        show bl _ = _
        rw [bl_app, bl_app, HS.out, tabs_snoc r.tbs k hkt, ← hpt, ← hTB]
        simp [bl]
      have HTW : Hid (Tch (fun _ => False) w0 wr) := HT.out
      have zS : (S ++ ⟨#[32]⟩).size ≤ 8000 := by rw [size_app]; show S.size + 1 ≤ 8000; omega
      have HZ : Hid ((S ++ ⟨#[32]⟩ ++ TB).size ≤ 80 + 401 * (k + 1)) := by show _ ≤ _; rw [size_app, size_app]; show S.size + 1 + TB.size ≤ _; omega
      clear hcs hrt hck hTL hpp hpt hx hto hTB HS hTw
      go_wp2_with fail
      refine q.mono ?_
      rintro y w4 ⟨rfl, t4⟩
      have HT4 : Hid (Tch (fun _ => False) w0 w4) := HTW.out.trans' t4
      clear q t4 c0 c1 c2 c3 c4 y13
      go_wp2_with fail
      go_roundw
      case rel => exact ⟨_, k + 1, rfl, by go_num, by omega, HSB, HZ.out, HT4⟩
      case measure => simp [intOf]; omega
    · have HF : Hid (S = RB) := HR.out S (by rw [HS.out, List.take_of_length_le]; have := HN.out.2; omega)
      clear HS
      go_wp2_with fail
      go_ret
      exact ⟨by rw [← HF.out]; rfl, hTw⟩
theorem rprint_ok (r : Rc) (s : Sk) (F : Nat → Prop) (w : World) (hi : RI r) (h : RW w F r s) (hr : RR r) : Calls Tryz.prog 21 #[rV r s] w fun x w' => x = .returned (.string (recB r)) ∧ Tch (fun _ => False) w w' := by
  have hk15 : 1 ≤ r.k ∧ r.k ≤ 15 := by
    rcases cls_rng r.k with h0 | h0
    · have := hr.1; rw [h0] at this; exact this.elim
    · exact ⟨h0.1, h0.2.1⟩
  have h15 : r.k = 1 ∨ r.k = 2 ∨ r.k = 3 ∨ r.k = 4 ∨ r.k = 5 ∨ r.k = 6 ∨ r.k = 7 ∨ r.k = 8 ∨ r.k = 9 ∨ r.k = 10 ∨ r.k = 11 ∨ r.k = 12 ∨ r.k = 13 ∨ r.k = 14 ∨ r.k = 15 := by omega
  rcases h15 with hk | hk | hk | hk | hk | hk | hk | hk | hk | hk | hk | hk | hk | hk | hk
  · exact rprint_1 r s F w hi h hr hk
  · exact rprint_2 r s F w hi h hr hk
  · exact rprint_3 r s F w hi h hr hk
  · exact rprint_4 r s F w hi h hr hk
  · exact rprint_5 r s F w hi h hr hk
  · exact rprint_6 r s F w hi h hr hk
  · exact rprint_7 r s F w hi h hr hk
  · exact rprint_8 r s F w hi h hr hk
  · exact rprint_9 r s F w hi h hr hk
  · exact rprint_10 r s F w hi h hr hk
  · exact rprint_11 r s F w hi h hr hk
  · exact rprint_12 r s F w hi h hr hk
  · exact rprint_13 r s F w hi h hr hk
  · exact rprint_14 r s F w hi h hr hk
  · exact rprint_15 r s F w hi h hr hk
theorem wordsO_1 (r : Rc) (s : Sk) (F : Nat → Prop) (w : World) (hv : HP w) (_hwd : HWd w) (_h : RW w F r s) (h1 : 0 ≤ r.x ∧ r.x ≤ 2147483648) : Calls Tryz.prog 49 #[bV 1 r s] w fun x w' => WO (wds 1 r) w x w' := by
  have a1 : ∀ v W, (Instr.typeAssert (.iface 128 v) 71 128 true).run Tryz.prog W = .ok (.tuple #[v, .bool true]) W := fun v W => by kernel_rfl
  obtain ⟨w0, hw0⟩ : ∃ w0, w0 = w.alloc (.cells #[.int .i64 r.x] 128) := ⟨_, rfl⟩
  have t0 : Tch (fun _ => False) w w0 := by rw [hw0]; exact Tch.alloc _ _ _
  have b0 : w0.heap[w.heap.size]? = some (.cells #[.int .i64 r.x] 128 (0, 0)) := by rw [hw0]; exact heap_new w _
  obtain ⟨V1, hV1⟩ : ∃ V, V = itoB r.x := ⟨_, rfl⟩
  have c1 : ∀ d os, Calls Tryz.prog 88 #[.int .i64 r.x] (grow (redrawn w0 d) os) fun e w'' => e = .returned (.string V1) ∧ ∃ p : Regrown, w'' = grow (redrawn w0 p.d) p.os := by rw [hV1]; exact regrown_calls (fun W t => digits6 r.x (by omega) W (hv.no (t0.trans' t)))
  have y0 : w0.cell? ⟨w.heap.size, 0, none⟩ = some (.int .i64 r.x) := blk_cell b0 0
  have k0 := cell_regrown y0
  have q : Calls Tryz.prog 88 #[.int .i64 r.x] w0 fun x w' => x = .returned (.string V1) ∧ Tch (fun _ => False) w0 w' := by rw [hV1]; exact digits6 r.x (by omega) w0 (hv.no t0)
  have HT0 : Hid (Tch (fun _ => False) w w0) := t0
  have HW0 : Hid (w0 = w.alloc (.cells #[.int .i64 r.x] 128)) := hw0
  unfold wds
  rw [← hV1]
  clear hw0 t0 b0 hv _hwd _h h1 hV1
  unfold bV
  go_enter Tryz.func49, Tryz.ntmps49
  go_wp2_with fail
  rw [← HW0.out]
  refine q.mono ?_
  rintro x W1 ⟨rfl, t1⟩
  have HE : Hid (Tch (fun _ => False) w W1) := HT0.out.trans' t1
  clear q t1 c1 k0 y0
  go_wp2_with fail
  go_ret
  refine ⟨⟨W1.heap.size, 1, rfl, Nat.le_refl _, fun j y hy => ?_⟩, HE.out.allocR _⟩
  have hb := heap_new W1 (.cells #[.string V1] 9)
  rw [Nat.zero_add, blk_cell hb]
  match j, hy with
  | 0, hy => injection hy with hy; subst hy; rfl
  | (j + 1), hy => simp at hy
theorem wordsO_2 (r : Rc) (s : Sk) (F : Nat → Prop) (w : World) (hv : HP w) (_hwd : HWd w) (_h : RW w F r s) (h1 : 0 ≤ r.x ∧ r.x ≤ 2147483648) (h2 : 0 ≤ r.p ∧ r.p ≤ 2147483648) : Calls Tryz.prog 49 #[bV 2 r s] w fun x w' => WO (wds 2 r) w x w' := by
  have a1 : ∀ v W, (Instr.typeAssert (.iface 130 v) 71 128 true).run Tryz.prog W = .ok (.tuple #[.agg #[.int .i64 0], .bool false]) W := fun v W => by kernel_rfl
  have a2 : ∀ v W, (Instr.typeAssert (.iface 130 v) 71 130 true).run Tryz.prog W = .ok (.tuple #[v, .bool true]) W := fun v W => by kernel_rfl
  obtain ⟨w0, hw0⟩ : ∃ w0, w0 = w.alloc (.cells #[.int .i64 r.x, .int .i64 r.p] 130) := ⟨_, rfl⟩
  have t0 : Tch (fun _ => False) w w0 := by rw [hw0]; exact Tch.alloc _ _ _
  have b0 : w0.heap[w.heap.size]? = some (.cells #[.int .i64 r.x, .int .i64 r.p] 130 (0, 0)) := by rw [hw0]; exact heap_new w _
  obtain ⟨V1, hV1⟩ : ∃ V, V = itoB r.x := ⟨_, rfl⟩
  obtain ⟨V2, hV2⟩ : ∃ V, V = itoB r.p := ⟨_, rfl⟩
  have c1 : ∀ d os, Calls Tryz.prog 88 #[.int .i64 r.x] (grow (redrawn w0 d) os) fun e w'' => e = .returned (.string V1) ∧ ∃ p : Regrown, w'' = grow (redrawn w0 p.d) p.os := by rw [hV1]; exact regrown_calls (fun W t => digits6 r.x (by omega) W (hv.no (t0.trans' t)))
  have c2 : ∀ d os, Calls Tryz.prog 88 #[.int .i64 r.p] (grow (redrawn w0 d) os) fun e w'' => e = .returned (.string V2) ∧ ∃ p : Regrown, w'' = grow (redrawn w0 p.d) p.os := by rw [hV2]; exact regrown_calls (fun W t => digits6 r.p (by omega) W (hv.no (t0.trans' t)))
  have y0 : w0.cell? ⟨w.heap.size, 0, none⟩ = some (.int .i64 r.x) := blk_cell b0 0
  have y1 : w0.cell? ⟨w.heap.size, 1, none⟩ = some (.int .i64 r.p) := blk_cell b0 1
  have k0 := cell_regrown y0
  have k1 := cell_regrown y1
  have HT0 : Hid (Tch (fun _ => False) w w0) := t0
  have HW0 : Hid (w0 = w.alloc (.cells #[.int .i64 r.x, .int .i64 r.p] 130)) := hw0
  unfold wds
  rw [← hV1]
  rw [← hV2]
  clear hw0 t0 b0 hv _hwd _h h1 hV1 h2 hV2
  unfold bV
  go_enter Tryz.func49, Tryz.ntmps49
  go_wp2_with fail
  rw [← HW0.out]
  refine wp_region_below_tail 6 (by kernel_rfl) (by kernel_rfl) ?_
  simp only [List.take_succ_cons, List.take_zero, List.drop_succ_cons, List.drop_zero]
  quiet_step (fail)
  quiet_step (fail)
  quiet_step ((go_at_call 88; exact c1 _ _))
  quiet_step (fail)
  quiet_step (fail)
  quiet_step ((go_at_call 88; exact c2 _ _))
  refine wpQuiet_nil ?_
  rintro w1 ⟨p, rfl⟩
  have HE : Hid (Tch (fun _ => False) w (grow (redrawn w0 p.d) p.os)) := HT0.out.trans' (Tch.regrown w0 p.d p.os)
  obtain ⟨W1, hW1⟩ : ∃ W1, W1 = grow (redrawn w0 p.d) p.os := ⟨_, rfl⟩
  rw [← hW1] at HE ⊢
  clear hW1 k0 k1 c1 c2 y0 y1
  go_wp2_with fail
  go_ret
  refine ⟨⟨W1.heap.size, 3, rfl, Nat.le_refl _, fun j y hy => ?_⟩, HE.out.allocR _⟩
  have hb := heap_new W1 (.cells #[.string V1, .string ⟨#[111, 102]⟩, .string V2] 9)
  rw [Nat.zero_add, blk_cell hb]
  match j, hy with
  | 0, hy => injection hy with hy; subst hy; rfl
  | 1, hy => injection hy with hy; subst hy; rfl
  | 2, hy => injection hy with hy; subst hy; rfl
  | (j + 3), hy => simp at hy
theorem wordsO_3 (r : Rc) (s : Sk) (F : Nat → Prop) (w : World) (hv : HP w) (hwd : HWd w) (h : RW w F r s) (h1 : 0 ≤ r.x ∧ r.x ≤ 2147483648) (h2 : 0 ≤ r.t ∧ r.t ≤ 2147483648) (h3 : r.n.length ≤ 8) : Calls Tryz.prog 49 #[bV 3 r s] w fun x w' => WO (wds 3 r) w x w' := by
  have a1 : ∀ v W, (Instr.typeAssert (.iface 132 v) 71 128 true).run Tryz.prog W = .ok (.tuple #[.agg #[.int .i64 0], .bool false]) W := fun v W => by kernel_rfl
  have a2 : ∀ v W, (Instr.typeAssert (.iface 132 v) 71 130 true).run Tryz.prog W = .ok (.tuple #[.agg #[.int .i64 0, .int .i64 0], .bool false]) W := fun v W => by kernel_rfl
  have a3 : ∀ v W, (Instr.typeAssert (.iface 132 v) 71 132 true).run Tryz.prog W = .ok (.tuple #[v, .bool true]) W := fun v W => by kernel_rfl
  obtain ⟨w0, hw0⟩ : ∃ w0, w0 = w.alloc (.cells #[.int .i64 r.x, .int .i64 r.t, .slice s.no r.n.length s.nc] 132) := ⟨_, rfl⟩
  have t0 : Tch (fun _ => False) w w0 := by rw [hw0]; exact Tch.alloc _ _ _
  have b0 : w0.heap[w.heap.size]? = some (.cells #[.int .i64 r.x, .int .i64 r.t, .slice s.no r.n.length s.nc] 132 (0, 0)) := by rw [hw0]; exact heap_new w _
  obtain ⟨V1, hV1⟩ : ∃ V, V = itoB r.x := ⟨_, rfl⟩
  obtain ⟨V2, hV2⟩ : ∃ V, V = itoB r.t := ⟨_, rfl⟩
  obtain ⟨V3, hV3⟩ : ∃ V, V = brk (r.n.map prB) := ⟨_, rfl⟩
  have c1 : ∀ d os, Calls Tryz.prog 88 #[.int .i64 r.x] (grow (redrawn w0 d) os) fun e w'' => e = .returned (.string V1) ∧ ∃ p : Regrown, w'' = grow (redrawn w0 p.d) p.os := by rw [hV1]; exact regrown_calls (fun W t => digits6 r.x (by omega) W (hv.no (t0.trans' t)))
  have c2 : ∀ d os, Calls Tryz.prog 88 #[.int .i64 r.t] (grow (redrawn w0 d) os) fun e w'' => e = .returned (.string V2) ∧ ∃ p : Regrown, w'' = grow (redrawn w0 p.d) p.os := by rw [hV2]; exact regrown_calls (fun W t => digits6 r.t (by omega) W (hv.no (t0.trans' t)))
  have c3 : ∀ d os, Calls Tryz.prog 89 #[.slice s.no r.n.length s.nc] (grow (redrawn w0 d) os) fun e w'' => e = .returned (.string V3) ∧ ∃ p : Regrown, w'' = grow (redrawn w0 p.d) p.os := by rw [hV3]; exact regrown_calls (fun W t => printRow_any r.n s.no s.nc W prB (fun v hv' W' t' => print_any6 v (h.ni v hv').2 W' (hwd.no ((t0.trans' t).trans' t')) (hv.no ((t0.trans' t).trans' t'))) ((h.no (t0.trans' t)).n) h3 (by have := rowB_size h3 h.ni; omega))
  have y0 : w0.cell? ⟨w.heap.size, 0, none⟩ = some (.int .i64 r.x) := blk_cell b0 0
  have y1 : w0.cell? ⟨w.heap.size, 1, none⟩ = some (.int .i64 r.t) := blk_cell b0 1
  have y2 : w0.cell? ⟨w.heap.size, 2, none⟩ = some (.slice s.no r.n.length s.nc) := blk_cell b0 2
  have k0 := cell_regrown y0
  have k1 := cell_regrown y1
  have k2 := cell_regrown y2
  have HT0 : Hid (Tch (fun _ => False) w w0) := t0
  have HW0 : Hid (w0 = w.alloc (.cells #[.int .i64 r.x, .int .i64 r.t, .slice s.no r.n.length s.nc] 132)) := hw0
  unfold wds
  rw [← hV1]
  rw [← hV2]
  rw [← hV3]
  clear hw0 t0 b0 hv hwd h h1 hV1 h2 hV2 h3 hV3
  unfold bV
  go_enter Tryz.func49, Tryz.ntmps49
  go_wp2_with fail
  rw [← HW0.out]
  refine wp_region_below_tail 9 (by kernel_rfl) (by kernel_rfl) ?_
  simp only [List.take_succ_cons, List.take_zero, List.drop_succ_cons, List.drop_zero]
  quiet_step (fail)
  quiet_step (fail)
  quiet_step ((go_at_call 88; exact c1 _ _))
  quiet_step (fail)
  quiet_step (fail)
  quiet_step ((go_at_call 88; exact c2 _ _))
  quiet_step (fail)
  quiet_step (fail)
  quiet_step ((go_at_call 89; exact c3 _ _))
  refine wpQuiet_nil ?_
  rintro w1 ⟨p, rfl⟩
  have HE : Hid (Tch (fun _ => False) w (grow (redrawn w0 p.d) p.os)) := HT0.out.trans' (Tch.regrown w0 p.d p.os)
  obtain ⟨W1, hW1⟩ : ∃ W1, W1 = grow (redrawn w0 p.d) p.os := ⟨_, rfl⟩
  rw [← hW1] at HE ⊢
  clear hW1 k0 k1 k2 c1 c2 c3 y0 y1 y2
  go_wp2_with fail
  go_ret
  refine ⟨⟨W1.heap.size, 4, rfl, Nat.le_refl _, fun j y hy => ?_⟩, HE.out.allocR _⟩
  have hb := heap_new W1 (.cells #[.string V1, .string ⟨#[116, 97, 98, 108, 101]⟩, .string V2, .string V3] 9)
  rw [Nat.zero_add, blk_cell hb]
  match j, hy with
  | 0, hy => injection hy with hy; subst hy; rfl
  | 1, hy => injection hy with hy; subst hy; rfl
  | 2, hy => injection hy with hy; subst hy; rfl
  | 3, hy => injection hy with hy; subst hy; rfl
  | (j + 4), hy => simp at hy
theorem wordsO_4 (r : Rc) (s : Sk) (F : Nat → Prop) (w : World) (hv : HP w) (hwd : HWd w) (h : RW w F r s) (h1 : 0 ≤ r.x ∧ r.x ≤ 2147483648) (h2 : 0 ≤ r.t ∧ r.t ≤ 2147483648) (h3 : r.o.length ≤ 8) (h4 : r.n.length ≤ 8) : Calls Tryz.prog 49 #[bV 4 r s] w fun x w' => WO (wds 4 r) w x w' := by
  have a1 : ∀ v W, (Instr.typeAssert (.iface 134 v) 71 128 true).run Tryz.prog W = .ok (.tuple #[.agg #[.int .i64 0], .bool false]) W := fun v W => by kernel_rfl
  have a2 : ∀ v W, (Instr.typeAssert (.iface 134 v) 71 130 true).run Tryz.prog W = .ok (.tuple #[.agg #[.int .i64 0, .int .i64 0], .bool false]) W := fun v W => by kernel_rfl
  have a3 : ∀ v W, (Instr.typeAssert (.iface 134 v) 71 132 true).run Tryz.prog W = .ok (.tuple #[.agg #[.int .i64 0, .int .i64 0, .slice none 0 0], .bool false]) W := fun v W => by kernel_rfl
  have a4 : ∀ v W, (Instr.typeAssert (.iface 134 v) 71 134 true).run Tryz.prog W = .ok (.tuple #[v, .bool true]) W := fun v W => by kernel_rfl
  obtain ⟨w0, hw0⟩ : ∃ w0, w0 = w.alloc (.cells #[.int .i64 r.x, .int .i64 r.t, .slice s.oo r.o.length s.oc, .slice s.no r.n.length s.nc] 134) := ⟨_, rfl⟩
  have t0 : Tch (fun _ => False) w w0 := by rw [hw0]; exact Tch.alloc _ _ _
  have b0 : w0.heap[w.heap.size]? = some (.cells #[.int .i64 r.x, .int .i64 r.t, .slice s.oo r.o.length s.oc, .slice s.no r.n.length s.nc] 134 (0, 0)) := by rw [hw0]; exact heap_new w _
  obtain ⟨V1, hV1⟩ : ∃ V, V = itoB r.x := ⟨_, rfl⟩
  obtain ⟨V2, hV2⟩ : ∃ V, V = itoB r.t := ⟨_, rfl⟩
  obtain ⟨V3, hV3⟩ : ∃ V, V = brk (r.o.map prB) := ⟨_, rfl⟩
  obtain ⟨V4, hV4⟩ : ∃ V, V = brk (r.n.map prB) := ⟨_, rfl⟩
  have c1 : ∀ d os, Calls Tryz.prog 88 #[.int .i64 r.x] (grow (redrawn w0 d) os) fun e w'' => e = .returned (.string V1) ∧ ∃ p : Regrown, w'' = grow (redrawn w0 p.d) p.os := by rw [hV1]; exact regrown_calls (fun W t => digits6 r.x (by omega) W (hv.no (t0.trans' t)))
  have c2 : ∀ d os, Calls Tryz.prog 88 #[.int .i64 r.t] (grow (redrawn w0 d) os) fun e w'' => e = .returned (.string V2) ∧ ∃ p : Regrown, w'' = grow (redrawn w0 p.d) p.os := by rw [hV2]; exact regrown_calls (fun W t => digits6 r.t (by omega) W (hv.no (t0.trans' t)))
  have c3 : ∀ d os, Calls Tryz.prog 89 #[.slice s.oo r.o.length s.oc] (grow (redrawn w0 d) os) fun e w'' => e = .returned (.string V3) ∧ ∃ p : Regrown, w'' = grow (redrawn w0 p.d) p.os := by rw [hV3]; exact regrown_calls (fun W t => printRow_any r.o s.oo s.oc W prB (fun v hv' W' t' => print_any6 v (h.oi v hv').2 W' (hwd.no ((t0.trans' t).trans' t')) (hv.no ((t0.trans' t).trans' t'))) ((h.no (t0.trans' t)).o) h3 (by have := rowB_size h3 h.oi; omega))
  have c4 : ∀ d os, Calls Tryz.prog 89 #[.slice s.no r.n.length s.nc] (grow (redrawn w0 d) os) fun e w'' => e = .returned (.string V4) ∧ ∃ p : Regrown, w'' = grow (redrawn w0 p.d) p.os := by rw [hV4]; exact regrown_calls (fun W t => printRow_any r.n s.no s.nc W prB (fun v hv' W' t' => print_any6 v (h.ni v hv').2 W' (hwd.no ((t0.trans' t).trans' t')) (hv.no ((t0.trans' t).trans' t'))) ((h.no (t0.trans' t)).n) h4 (by have := rowB_size h4 h.ni; omega))
  have y0 : w0.cell? ⟨w.heap.size, 0, none⟩ = some (.int .i64 r.x) := blk_cell b0 0
  have y1 : w0.cell? ⟨w.heap.size, 1, none⟩ = some (.int .i64 r.t) := blk_cell b0 1
  have y2 : w0.cell? ⟨w.heap.size, 2, none⟩ = some (.slice s.oo r.o.length s.oc) := blk_cell b0 2
  have y3 : w0.cell? ⟨w.heap.size, 3, none⟩ = some (.slice s.no r.n.length s.nc) := blk_cell b0 3
  have k0 := cell_regrown y0
  have k1 := cell_regrown y1
  have k2 := cell_regrown y2
  have k3 := cell_regrown y3
  have HT0 : Hid (Tch (fun _ => False) w w0) := t0
  have HW0 : Hid (w0 = w.alloc (.cells #[.int .i64 r.x, .int .i64 r.t, .slice s.oo r.o.length s.oc, .slice s.no r.n.length s.nc] 134)) := hw0
  unfold wds
  rw [← hV1]
  rw [← hV2]
  rw [← hV3]
  rw [← hV4]
  clear hw0 t0 b0 hv hwd h h1 hV1 h2 hV2 h3 hV3 h4 hV4
  unfold bV
  go_enter Tryz.func49, Tryz.ntmps49
  go_wp2_with fail
  rw [← HW0.out]
  refine wp_region_below_tail 12 (by kernel_rfl) (by kernel_rfl) ?_
  simp only [List.take_succ_cons, List.take_zero, List.drop_succ_cons, List.drop_zero]
  quiet_step (fail)
  quiet_step (fail)
  quiet_step ((go_at_call 88; exact c1 _ _))
  quiet_step (fail)
  quiet_step (fail)
  quiet_step ((go_at_call 88; exact c2 _ _))
  quiet_step (fail)
  quiet_step (fail)
  quiet_step ((go_at_call 89; exact c3 _ _))
  quiet_step (fail)
  quiet_step (fail)
  quiet_step ((go_at_call 89; exact c4 _ _))
  refine wpQuiet_nil ?_
  rintro w1 ⟨p, rfl⟩
  have HE : Hid (Tch (fun _ => False) w (grow (redrawn w0 p.d) p.os)) := HT0.out.trans' (Tch.regrown w0 p.d p.os)
  obtain ⟨W1, hW1⟩ : ∃ W1, W1 = grow (redrawn w0 p.d) p.os := ⟨_, rfl⟩
  rw [← hW1] at HE ⊢
  clear hW1 k0 k1 k2 k3 c1 c2 c3 c4 y0 y1 y2 y3
  go_wp2_with fail
  go_ret
  refine ⟨⟨W1.heap.size, 6, rfl, Nat.le_refl _, fun j y hy => ?_⟩, HE.out.allocR _⟩
  have hb := heap_new W1 (.cells #[.string V1, .string ⟨#[116, 97, 98, 108, 101]⟩, .string V2, .string V3, .string ⟨#[116, 111]⟩, .string V4] 9)
  rw [Nat.zero_add, blk_cell hb]
  match j, hy with
  | 0, hy => injection hy with hy; subst hy; rfl
  | 1, hy => injection hy with hy; subst hy; rfl
  | 2, hy => injection hy with hy; subst hy; rfl
  | 3, hy => injection hy with hy; subst hy; rfl
  | 4, hy => injection hy with hy; subst hy; rfl
  | 5, hy => injection hy with hy; subst hy; rfl
  | (j + 6), hy => simp at hy
theorem wordsO_5 (r : Rc) (s : Sk) (F : Nat → Prop) (w : World) (hv : HP w) (hwd : HWd w) (h : RW w F r s) (h1 : 0 ≤ r.x ∧ r.x ≤ 2147483648) (h2 : 0 ≤ r.t ∧ r.t ≤ 2147483648) (h3 : r.o.length ≤ 8) : Calls Tryz.prog 49 #[bV 5 r s] w fun x w' => WO (wds 5 r) w x w' := by
  have a1 : ∀ v W, (Instr.typeAssert (.iface 135 v) 71 128 true).run Tryz.prog W = .ok (.tuple #[.agg #[.int .i64 0], .bool false]) W := fun v W => by kernel_rfl
  have a2 : ∀ v W, (Instr.typeAssert (.iface 135 v) 71 130 true).run Tryz.prog W = .ok (.tuple #[.agg #[.int .i64 0, .int .i64 0], .bool false]) W := fun v W => by kernel_rfl
  have a3 : ∀ v W, (Instr.typeAssert (.iface 135 v) 71 132 true).run Tryz.prog W = .ok (.tuple #[.agg #[.int .i64 0, .int .i64 0, .slice none 0 0], .bool false]) W := fun v W => by kernel_rfl
  have a4 : ∀ v W, (Instr.typeAssert (.iface 135 v) 71 134 true).run Tryz.prog W = .ok (.tuple #[.agg #[.int .i64 0, .int .i64 0, .slice none 0 0, .slice none 0 0], .bool false]) W := fun v W => by kernel_rfl
  have a5 : ∀ v W, (Instr.typeAssert (.iface 135 v) 71 135 true).run Tryz.prog W = .ok (.tuple #[v, .bool true]) W := fun v W => by kernel_rfl
  obtain ⟨w0, hw0⟩ : ∃ w0, w0 = w.alloc (.cells #[.int .i64 r.x, .int .i64 r.t, .slice s.oo r.o.length s.oc] 135) := ⟨_, rfl⟩
  have t0 : Tch (fun _ => False) w w0 := by rw [hw0]; exact Tch.alloc _ _ _
  have b0 : w0.heap[w.heap.size]? = some (.cells #[.int .i64 r.x, .int .i64 r.t, .slice s.oo r.o.length s.oc] 135 (0, 0)) := by rw [hw0]; exact heap_new w _
  obtain ⟨V1, hV1⟩ : ∃ V, V = itoB r.x := ⟨_, rfl⟩
  obtain ⟨V2, hV2⟩ : ∃ V, V = itoB r.t := ⟨_, rfl⟩
  obtain ⟨V3, hV3⟩ : ∃ V, V = brk (r.o.map prB) := ⟨_, rfl⟩
  have c1 : ∀ d os, Calls Tryz.prog 88 #[.int .i64 r.x] (grow (redrawn w0 d) os) fun e w'' => e = .returned (.string V1) ∧ ∃ p : Regrown, w'' = grow (redrawn w0 p.d) p.os := by rw [hV1]; exact regrown_calls (fun W t => digits6 r.x (by omega) W (hv.no (t0.trans' t)))
  have c2 : ∀ d os, Calls Tryz.prog 88 #[.int .i64 r.t] (grow (redrawn w0 d) os) fun e w'' => e = .returned (.string V2) ∧ ∃ p : Regrown, w'' = grow (redrawn w0 p.d) p.os := by rw [hV2]; exact regrown_calls (fun W t => digits6 r.t (by omega) W (hv.no (t0.trans' t)))
  have c3 : ∀ d os, Calls Tryz.prog 89 #[.slice s.oo r.o.length s.oc] (grow (redrawn w0 d) os) fun e w'' => e = .returned (.string V3) ∧ ∃ p : Regrown, w'' = grow (redrawn w0 p.d) p.os := by rw [hV3]; exact regrown_calls (fun W t => printRow_any r.o s.oo s.oc W prB (fun v hv' W' t' => print_any6 v (h.oi v hv').2 W' (hwd.no ((t0.trans' t).trans' t')) (hv.no ((t0.trans' t).trans' t'))) ((h.no (t0.trans' t)).o) h3 (by have := rowB_size h3 h.oi; omega))
  have y0 : w0.cell? ⟨w.heap.size, 0, none⟩ = some (.int .i64 r.x) := blk_cell b0 0
  have y1 : w0.cell? ⟨w.heap.size, 1, none⟩ = some (.int .i64 r.t) := blk_cell b0 1
  have y2 : w0.cell? ⟨w.heap.size, 2, none⟩ = some (.slice s.oo r.o.length s.oc) := blk_cell b0 2
  have k0 := cell_regrown y0
  have k1 := cell_regrown y1
  have k2 := cell_regrown y2
  have HT0 : Hid (Tch (fun _ => False) w w0) := t0
  have HW0 : Hid (w0 = w.alloc (.cells #[.int .i64 r.x, .int .i64 r.t, .slice s.oo r.o.length s.oc] 135)) := hw0
  unfold wds
  rw [← hV1]
  rw [← hV2]
  rw [← hV3]
  clear hw0 t0 b0 hv hwd h h1 hV1 h2 hV2 h3 hV3
  unfold bV
  go_enter Tryz.func49, Tryz.ntmps49
  go_wp2_with fail
  rw [← HW0.out]
  refine wp_region_below_tail 9 (by kernel_rfl) (by kernel_rfl) ?_
  simp only [List.take_succ_cons, List.take_zero, List.drop_succ_cons, List.drop_zero]
  quiet_step (fail)
  quiet_step (fail)
  quiet_step ((go_at_call 88; exact c1 _ _))
  quiet_step (fail)
  quiet_step (fail)
  quiet_step ((go_at_call 88; exact c2 _ _))
  quiet_step (fail)
  quiet_step (fail)
  quiet_step ((go_at_call 89; exact c3 _ _))
  refine wpQuiet_nil ?_
  rintro w1 ⟨p, rfl⟩
  have HE : Hid (Tch (fun _ => False) w (grow (redrawn w0 p.d) p.os)) := HT0.out.trans' (Tch.regrown w0 p.d p.os)
  obtain ⟨W1, hW1⟩ : ∃ W1, W1 = grow (redrawn w0 p.d) p.os := ⟨_, rfl⟩
  rw [← hW1] at HE ⊢
  clear hW1 k0 k1 k2 c1 c2 c3 y0 y1 y2
  go_wp2_with fail
  go_ret
  refine ⟨⟨W1.heap.size, 4, rfl, Nat.le_refl _, fun j y hy => ?_⟩, HE.out.allocR _⟩
  have hb := heap_new W1 (.cells #[.string V1, .string ⟨#[116, 97, 98, 108, 101]⟩, .string V2, .string V3] 9)
  rw [Nat.zero_add, blk_cell hb]
  match j, hy with
  | 0, hy => injection hy with hy; subst hy; rfl
  | 1, hy => injection hy with hy; subst hy; rfl
  | 2, hy => injection hy with hy; subst hy; rfl
  | 3, hy => injection hy with hy; subst hy; rfl
  | (j + 4), hy => simp at hy
def stc (xs : List ByteArray) : List Value := xs.map .string
theorem stc_len (xs : List ByteArray) : (stc xs).length = xs.length := by simp [stc]
theorem stc_one (xs : List ByteArray) : ∀ u ∈ stc xs, u.oneCell' = true := fun u hu => by
  obtain ⟨x, _, rfl⟩ := List.mem_map.1 hu; rfl
theorem info_str : (Tryz.prog.info? 9).map (fun i => (i.zero, i.size, i.bytes)) = some (some (.string ⟨#[]⟩), 1, 16) := by kernel_rfl
theorem own_wo {W w : World} {base n : Nat} {v : Value} {xs : List ByteArray} (h : W.ownsRow base 9 1 v n (stc xs)) (hn : n = xs.length) (h0 : 0 < n) (t : Tch (fun _ => False) w W) : WO xs w (.returned v) W := by
  rcases h.2 with ⟨_, h1⟩ | ⟨g, cap, cur, h1, h2, h3, h4, h5, h6, h7⟩
  · omega
  · refine ⟨⟨g, cap, by rw [h1, hn], by omega, fun j y hy => ?_⟩, t⟩
    rw [Nat.zero_add, blk_cell h3]
    obtain ⟨hj, e⟩ := List.getElem?_eq_some_iff.1 hy
    have e2 : (stc xs)[j]? = some (.string y) := by unfold stc; rw [List.getElem?_map, hy]; rfl
    rw [← h7, List.getElem?_take_of_lt (by omega)] at e2
    rw [← Array.getElem?_toList]; exact e2
theorem own_str {W : World} {g : Nat} {cur : Array Value} {xs : List ByteArray} (h : W.heap[g]? = some (.cells cur 9 (0, 0))) (e : cur.toList = stc xs) (hl : xs.length ≤ 1000) (base : Nat) (hb : base ≤ g) : W.ownsRow base 9 1 (.slice (some ⟨g, 0, none⟩) xs.length xs.length) xs.length (stc xs) := by
  have hz : cur.size = xs.length := by rw [← Array.length_toList, e, stc_len]
  refine ⟨by rw [stc_len]; omega, Or.inr ⟨g, xs.length, cur, rfl, hb, h, Nat.le_refl _, by unfold maxLen; omega, by omega, ?_⟩⟩
  rw [e]
  exact List.take_of_length_le (by rw [stc_len]; omega)
theorem commitWords6 (r : Rc) (w : World) (hv : HP w) (hx : 0 ≤ r.x ∧ r.x ≤ 2147483648) (ho : 0 ≤ r.org ∧ r.org ≤ 819208192) : Calls Tryz.prog 90 #[.agg #[.int .i64 r.x, .string r.nm, .int .i64 r.org]] w fun x w' => WO (wds 6 r) w x w' := by
  obtain ⟨i0, hi, hz0, hz1, hz2⟩ := info_parts info_str
  have HI : Hid (i0.zero = some (.string ⟨#[]⟩) ∧ i0.size = 1 ∧ i0.bytes = 16) := ⟨hz0, hz1, hz2⟩
  clear hz0 hz1 hz2
  obtain ⟨w0, hw0⟩ : ∃ w0, w0 = w.alloc (.cells #[.int .i64 r.x, .string r.nm, .int .i64 r.org] 137) := ⟨_, rfl⟩
  have t0 : Tch (fun _ => False) w w0 := by rw [hw0]; exact Tch.alloc _ _ _
  have b0 : w0.heap[w.heap.size]? = some (.cells #[.int .i64 r.x, .string r.nm, .int .i64 r.org] 137 (0, 0)) := by rw [hw0]; exact heap_new w _
  have HK : Hid (∀ W, Tch (fun _ => False) w0 W → W.cell? ⟨w.heap.size, 0, none⟩ = some (.int .i64 r.x) ∧ W.cell? ⟨w.heap.size, 1, none⟩ = some (.string r.nm) ∧ W.cell? ⟨w.heap.size, 2, none⟩ = some (.int .i64 r.org)) := fun W t => by
    have hb := (t.block _ (blk_lt b0) (fun h => h)).trans b0
    exact ⟨blk_cell hb 0, blk_cell hb 1, blk_cell hb 2⟩
  obtain ⟨X, hX⟩ : ∃ X, X = itoB r.x := ⟨_, rfl⟩
  obtain ⟨OG, hOG⟩ : ∃ OG, OG = itoB r.org := ⟨_, rfl⟩
  have q1 : Calls Tryz.prog 88 #[.int .i64 r.x] w0 fun x w' => x = .returned (.string X) ∧ Tch (fun _ => False) w0 w' := by rw [hX]; exact digits6 r.x (by omega) w0 (hv.no t0)
  have HD2 : Hid (∀ W, Tch (fun _ => False) w W → Calls Tryz.prog 88 #[.int .i64 r.org] W fun x w' => x = .returned (.string OG) ∧ Tch (fun _ => False) W w') := fun W t => by rw [hOG]; exact digits6 r.org (by omega) W (hv.no t)
  have HT0 : Hid (Tch (fun _ => False) w w0) := t0
  have HW0 : Hid (w0 = w.alloc (.cells #[.int .i64 r.x, .string r.nm, .int .i64 r.org] 137)) := hw0
  rw [hw0] at q1
  obtain ⟨ws, hws⟩ : ∃ ws, ws = wds 6 r := ⟨_, rfl⟩
  have HWE : Hid (ws = if r.nm.size = 0 then [X] else [X, fromB, r.nm, atB, OG]) := by show _ = _; rw [hws, hX, hOG]; rfl
  rw [← hws]
  clear hws hv hx ho t0 b0 hw0 hX hOG
  go_enter Tryz.func90, Tryz.ntmps90
  go_wp2_with fail
  refine q1.mono ?_
  rintro x w1 ⟨rfl, t1⟩
  rw [← HW0.out] at t1
  obtain ⟨w2, hw2⟩ : ∃ w2, w2 = w1.alloc (.cells #[.string X] 9) := ⟨_, rfl⟩
  have b2 : w2.heap[w1.heap.size]? = some (.cells #[.string X] 9 (0, 0)) := by rw [hw2]; exact heap_new w1 _
  have HT2 : Hid (Tch (fun _ => False) w0 w2) := by show Tch _ _ _; rw [hw2]; exact t1.allocR _
  obtain ⟨y0, y1, y2⟩ := HK.out w2 HT2.out
  have HB2 : Hid (w2.heap[w1.heap.size]? = some (.cells #[.string X] 9 (0, 0))) := b2
  have hL : w.heap.size < w1.heap.size := by
    have h1 := cell_lt (HK.out w1 t1).1
    exact h1
  have HW2 : Hid (w2 = w1.alloc (.cells #[.string X] 9)) := hw2
  have HT1 : Hid (Tch (fun _ => False) w0 w1) := t1
  clear q1 t1 b2
  by_cases hz : r.nm.size = 0
  · have hze : r.nm.toList.isEmpty = true := empty_of_size hz
    have HWS : Hid (ws = [X]) := by show _ = _; rw [HWE.out, if_pos hz]
    rw [hw2] at y1
    clear hz hw2 HWE
    go_wp2_with fail
    go_ret
    rw [← HW2.out, HWS.out]
    exact own_wo (own_str (xs := [X]) HB2.out rfl (by simp) 0 (Nat.zero_le _)) rfl (by simp) (HT0.out.trans' HT2.out)
  · have hze : r.nm.toList.isEmpty = false := nonempty_of_size (r := r.nm) (by omega)
    have HWS : Hid (ws = [X, fromB, r.nm, atB, OG]) := by show _ = _; rw [HWE.out, if_neg hz]
    obtain ⟨C, hC⟩ : ∃ C : List Value → World → Prop, C = fun st W => match st with
      | [] => Tch (fun _ => False) w2 W
      | [y] => y = .string OG ∧ Tch (fun _ => False) w2 W
      | [y, z] => y = .string OG ∧ (∃ N, z = .slice (some ⟨N, 0, none⟩) 4 4 ∧ W.heap[N]? = some (.cells #[.string fromB, .string r.nm, .string atB, .string OG] 9 (0, 0))) ∧ Tch (fun _ => False) w2 W
      | _ => False := ⟨_, rfl⟩
    have h0' : C [] w2.drew := by rw [hC]; exact (Tch.refl _ _).drew
    have hT : ∀ s W, C s W → Tch (fun _ => False) w2 W := fun s W h => by
      rw [hC] at h
      match s, h with
      | [], h => exact h
      | [y], h => exact h.2
      | [_, z], h => exact h.2.2
    have hK : ∀ s W, C s W → W.cell? ⟨w.heap.size, 1, none⟩ = some (.string r.nm) ∧ W.cell? ⟨w.heap.size, 2, none⟩ = some (.int .i64 r.org) := fun s W h =>
      ⟨((hT s W h).cell (p := ⟨_, _, none⟩) (cell_lt y1) (fun h => h)).trans y1, ((hT s W h).cell (p := ⟨_, _, none⟩) (cell_lt y2) (fun h => h)).trans y2⟩
    have h5 : ∀ W, C [] W → Calls Tryz.prog 88 #[.int .i64 r.org] W fun x w' => x = .returned (.string OG) ∧ C [.string OG] w' := fun W h => by
      have tW := hT _ _ h
      refine (HD2.out W ((HT0.out.trans' HT2.out).trans' tW)).mono ?_
      rintro x w' ⟨rfl, t⟩
      refine ⟨rfl, ?_⟩
      rw [hC]
      exact ⟨rfl, tW.trans' t⟩
    have h6 : ∀ W, C [.string OG] W → C [.string OG, .slice (some ⟨W.heap.size, 0, none⟩) 4 4] (W.alloc (.cells #[.string fromB, .string r.nm, .string atB, .string OG] 9)) := fun W h => by
      have tW := hT _ _ h
      rw [hC]
      exact ⟨rfl, ⟨_, rfl, alloc_new W _⟩, tW.allocR _⟩
    have hs5 : ∀ y W, C [y] W → y = .string OG := fun y W h => by rw [hC] at h; exact h.1
    have hs6 : ∀ y z W, C [y, z] W → ∃ N, z = .slice (some ⟨N, 0, none⟩) 4 4 := fun y z W h => by rw [hC] at h; obtain ⟨_, ⟨N, e, _⟩, _⟩ := h; exact ⟨N, e⟩
    have HEND : Hid (∀ N W, C [.string OG, .slice (some ⟨N, 0, none⟩) 4 4] W → W.heap[N]? = some (.cells #[.string fromB, .string r.nm, .string atB, .string OG] 9 (0, 0)) ∧ Tch (fun _ => False) w2 W) := fun N W h => by
      rw [hC] at h
      obtain ⟨_, ⟨N', e, hb⟩, t⟩ := h
      have e' : N = N' := by simpa using e
      subst e'
      exact ⟨hb, t⟩
    unfold fromB atB at h6
    rw [hw2] at y1
    clear hC hT hz hw2 HWE y0 y2
    go_wp2_with fail
    rw [← HW2.out]
    clear y1
    refine wp_region_ordv [5, 6] C 7 [0, 1, 2, 3, 4, 5, 6] (by kernel_rfl) (by kernel_rfl) h0' ?_
    clear h0'
    refine ordv_read rfl (by go_simp) (by rfl) ?_
    apply Exists.intro
    refine ⟨fun s' W hW b K Q hK' => ?_, fun K hK' => ?_⟩
    · obtain ⟨y0, y1⟩ := hK _ W hW
      go_simp
      exact hK' W hW
    go_simp
    refine hK' _ ?_
    clear hK' K
    refine ordv_read rfl (by go_simp) (by rfl) ?_
    apply Exists.intro
    refine ⟨fun s' W hW b K Q hK' => ?_, fun K hK' => ?_⟩
    · obtain ⟨y0, y1⟩ := hK _ W hW
      go_simp
      exact hK' W hW
    go_simp
    refine hK' _ ?_
    clear hK' K
    refine ordv_read rfl (by go_simp) (by rfl) ?_
    apply Exists.intro
    refine ⟨fun s' W hW b K Q hK' => ?_, fun K hK' => ?_⟩
    · obtain ⟨y0, y1⟩ := hK _ W hW
      go_simp
      exact hK' W hW
    go_simp
    refine hK' _ ?_
    clear hK' K
    refine ordv_read rfl (by go_simp) (by rfl) ?_
    apply Exists.intro
    refine ⟨fun s' W hW b K Q hK' => ?_, fun K hK' => ?_⟩
    · obtain ⟨y0, y1⟩ := hK _ W hW
      go_simp
      exact hK' W hW
    go_simp
    refine hK' _ ?_
    clear hK' K
    refine ordv_read rfl (by go_simp) (by rfl) ?_
    apply Exists.intro
    refine ⟨fun s' W hW b K Q hK' => ?_, fun K hK' => ?_⟩
    · obtain ⟨y0, y1⟩ := hK _ W hW
      go_simp
      exact hK' W hW
    go_simp
    refine hK' _ ?_
    clear hK' K
    refine ordv_turn rfl (by go_simp) (by rfl) (fun W hW b K Q hK' => ?_) (fun u hu K hK' => ?_)
    · go_simp
      refine (h5 W hW).mono ?_
      rintro x w' ⟨rfl, h1⟩
      exact hK' _ _ h1
    obtain ⟨W', hW'⟩ := hu
    have hu := hs5 u W' hW'
    subst hu
    clear hW' W'
    go_simp
    refine hK' _ ?_
    clear hK' K
    refine ordv_turn rfl (by go_simp) (by rfl) (fun W hW b K Q hK' => ?_) (fun u hu K hK' => ?_)
    · go_simp
      exact hK' _ _ (h6 W hW)
    obtain ⟨N4, rfl⟩ : ∃ N, u = .slice (some ⟨N, 0, none⟩) 4 4 := by
      obtain ⟨W', hW'⟩ := hu
      exact hs6 _ _ W' hW'
    clear hu
    go_simp
    refine hK' _ ?_
    clear hK' K
    refine ordv_nil ?_
    intro W3 hw6
    simp only [List.drop_succ_cons, List.drop_zero]
    obtain ⟨hb4, t23⟩ := HEND.out N4 W3 hw6
    have HT3 : Hid (Tch (fun _ => False) w2 W3) := t23
    have HOW : Hid (W3.ownsRow w1.heap.size 9 1 (.slice (some ⟨w1.heap.size, 0, none⟩) 1 1) 1 (stc [X])) := own_str (xs := [X]) ((t23.block _ (blk_lt HB2.out) (fun h => h)).trans HB2.out) rfl (by simp) _ (Nat.le_refl _)
    have HNW : Hid (∀ j u, (stc [fromB, r.nm, atB, OG])[j]? = some u → W3.cell? ((⟨N4, 0, none⟩ : Addr).add j) = some u) := World.news_of_block hb4
    have hz3 : w1.heap.size ≤ W3.heap.size := by have h1 := blk_lt HB2.out; have h2 := t23.size; omega
    clear hw6 hK h5 h6 hs5 hs6 HEND hb4 t23
    go_wp2_with (at_builtin; refine wpList_append_own _ rfl _ _ 54 rfl w1.heap.size 9 i0 (.string ⟨#[]⟩) 1 16 Tryz.underlying54 hi HI.out.1 HI.out.2.1 HI.out.2.2 rfl (by decide) (.slice (some ⟨w1.heap.size, 0, none⟩) 1 1) 1 (stc [X]) rfl HOW.out ⟨N4, 0, none⟩ 4 4 (stc [fromB, r.nm, atB, OG]) rfl rfl HNW.out (stc_one _) (by unfold maxLen; omega) (by omega) (by omega) ?_; intro v5 w5 hown5 hgr5 hnil5; clear hnil5)
    go_ret
    have t5 : Tch (fun i => w1.heap.size ≤ i) w1 w5 := by
      have e1 : Tch (fun i => w1.heap.size ≤ i) w1 w2 := by rw [HW2.out]; exact Tch.alloc _ _ _
      exact (e1.trans' (HT3.out.mono (fun _ _ h => h.elim))).trans' (grown_tch2 (b := w1.heap.size) hgr5 (fun g hg => by simp [Value.ownBlock] at hg; omega))
    have A : Tch (fun _ => False) w w1 := HT0.out.trans' HT1.out
    have T5 : Tch (fun _ => False) w w5 := (A.mono (fun _ _ h => h.elim)).trans t5 (fun i hi h => by have := A.size; omega)
    rw [HWS.out]
    exact own_wo (xs := [X, fromB, r.nm, atB, OG]) (show w5.ownsRow _ _ 1 v5 5 (stc [X, fromB, r.nm, atB, OG]) from hown5) rfl (by omega) T5
theorem wordsO_6 (r : Rc) (s : Sk) (F : Nat → Prop) (w : World) (hv : HP w) (_hwd : HWd w) (_h : RW w F r s) (hx : 0 ≤ r.x ∧ r.x ≤ 2147483648) (ho : 0 ≤ r.org ∧ r.org ≤ 819208192) : Calls Tryz.prog 49 #[bV 6 r s] w fun x w' => WO (wds 6 r) w x w' := by
  have a1 : ∀ v W, (Instr.typeAssert (.iface 137 v) 71 128 true).run Tryz.prog W = .ok (.tuple #[.agg #[.int .i64 0], .bool false]) W := fun v W => by kernel_rfl
  have a2 : ∀ v W, (Instr.typeAssert (.iface 137 v) 71 130 true).run Tryz.prog W = .ok (.tuple #[.agg #[.int .i64 0, .int .i64 0], .bool false]) W := fun v W => by kernel_rfl
  have a3 : ∀ v W, (Instr.typeAssert (.iface 137 v) 71 132 true).run Tryz.prog W = .ok (.tuple #[.agg #[.int .i64 0, .int .i64 0, .slice none 0 0], .bool false]) W := fun v W => by kernel_rfl
  have a4 : ∀ v W, (Instr.typeAssert (.iface 137 v) 71 134 true).run Tryz.prog W = .ok (.tuple #[.agg #[.int .i64 0, .int .i64 0, .slice none 0 0, .slice none 0 0], .bool false]) W := fun v W => by kernel_rfl
  have a5 : ∀ v W, (Instr.typeAssert (.iface 137 v) 71 135 true).run Tryz.prog W = .ok (.tuple #[.agg #[.int .i64 0, .int .i64 0, .slice none 0 0], .bool false]) W := fun v W => by kernel_rfl
  have a6 : ∀ v W, (Instr.typeAssert (.iface 137 v) 71 137 true).run Tryz.prog W = .ok (.tuple #[v, .bool true]) W := fun v W => by kernel_rfl
  have HQ : Hid (∀ W, Tch (fun _ => False) w W → Calls Tryz.prog 90 #[.agg #[.int .i64 r.x, .string r.nm, .int .i64 r.org]] W fun x w' => WO (wds 6 r) W x w') := fun W t => commitWords6 r W (hv.no t) hx ho
  clear hv _hwd _h hx ho
  unfold bV
  go_enter Tryz.func49, Tryz.ntmps49
  go_wp2_with fail
  refine (HQ.out _ (Tch.alloc _ _ _)).mono ?_
  rintro x w1 ⟨⟨g, cap, rfl, h1, h2⟩, t1⟩
  go_wp2_with fail
  go_ret
  exact ⟨⟨g, cap, rfl, h1, h2⟩, (Tch.alloc _ _ _).trans' t1⟩
end Go.Proofs.YtjiblajnfnmjnaaGreatDoor.C
