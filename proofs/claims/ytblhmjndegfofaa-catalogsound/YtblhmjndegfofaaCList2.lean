import Derived.Test.YtblhmjndegfofaaCList
/- List, Clone of the code: the walks. -/
namespace Go.Proofs.Ytblhmjndegfofaa
open Go.RowKit Go

/-- What List gives, what Clone gives. -/
def ListOut (L : List Tbl) (base : Nat) (x : Ending) (w' : World) : Prop := ∃ tv Q, x = .returned tv ∧ Q.map Prod.fst = L ∧ TO w' base tv Q
set_option maxHeartbeats 2000000 in
set_option maxRecDepth 100000 in
theorem list_any (b : Nat) (to : Option Addr) (tc : Nat) (P : List (Tbl × Value)) (F : Nat → Prop) (w : World) (hb : w.cell? ⟨b, 0, none⟩ = some (.slice to P.length tc)) (hT : TL w F to P) (hl : P.length ≤ 16) (h8 : ∀ i (hi : i < P.length), P[i].1.cols.length ≤ 8) :
    Calls Try.prog 20 #[.pointer (some ⟨b, 0, none⟩)] w fun x w' => ListOut (P.map Prod.fst) w.heap.size x w' ∧ Tch (fun _ => False) w w' := by
  obtain ⟨n, hn⟩ : ∃ n, n = P.length := ⟨_, rfl⟩
  obtain ⟨R, hR⟩ : ∃ R, R = w.heap.size := ⟨_, rfl⟩
  have hmk := make_tbl n w (by omega)
  obtain ⟨w1, hw1⟩ : ∃ w1, w1 = w.alloc (.cells (madeCells #[.int .i64 0, .int .i64 0, .string ⟨#[]⟩, .slice none 0 0, .int .i64 0] (n * 5)) 29) := ⟨_, rfl⟩
  rw [← hw1, ← hR] at hmk
  have t1 : Tch (fun _ => False) w w1 := by rw [hw1]; exact Tch.alloc _ _ _
  have HL1 : Hid (LP w1 R R n 0 P []) := ⟨rfl, rfl, ⟨_, by rw [hw1, hR]; exact alloc_new _ _, size_madeCells _ _, rfl⟩, fun i hi => by simp at hi, fun i hi => by simp at hi, fun i j hi => by simp at hi⟩
  have HTL : Hid (∀ W, Tch (fun i => i = R) w1 W → TL W F to P ∧ Tch (fun _ => False) w W) := fun W tW => by
    have h1 : Tch (fun _ => False) w W := t1.trans tW (fun i hi h => by omega)
    exact ⟨hT.tch h1 (fun _ _ h => h.elim), h1⟩
  have H8 : Hid _ := h8
  have Hn : Hid (n = P.length) := hn
  have HR : Hid (R = w.heap.size) := hR
  have hnI : (n : Int) ≤ 16 := by omega
  have hb1 : w1.cell? ⟨b, 0, none⟩ = some (.slice to P.length tc) := by rw [t1.cell (p := ⟨b, 0, none⟩) (cell_lt hb) (fun h => h)]; exact hb
  have HR1 : Hid (R < w1.heap.size) := by rw [hw1, hR, World.size_alloc]; show _ < _; omega
  rw [← hR]
  rw [← hn] at hb hb1
  clear hw1 hT h8 hn hR
  go_enter Try.func20, Try.ntmps20
  go_wp2_with fail
  clear hmk hb hb1
  go_loopw [17] (fun i wr => ∃ (k : Nat) (Q : List (Tbl × Value)), i = .int .i64 k ∧ k ≤ n ∧ Hid (LP wr R R n k P Q) ∧ Hid (Tch (fun i => i = R) w1 wr)) (fun i _ => n - (intOf i).toNat)
  case atStart => exact ⟨0, [], rfl, by omega, HL1, Tch.refl _ _⟩
  case round =>
    clear HL1
    obtain ⟨k, Q, rfl, hk, HL, HT⟩ := hrel
    by_cases hlt : (k : Int) < n
    · have hkP : k < P.length := by have := Hn.out; omega
      obtain ⟨hTL, hTw⟩ := HTL.out _ HT.out
      obtain ⟨g, o, rfl, c0, c1, c2, c3, c4⟩ := hTL.at k hkP
      obtain ⟨co, cc, hck⟩ := hTL.col k hkP
      obtain ⟨p, hp⟩ : ∃ p, p = P[k] := ⟨_, rfl⟩
      rw [← hp] at c0 c1 c2 c3 c4 hck
      rw [hck.eq] at c3
      have hp8 : p.1.cols.length ≤ 8 := by rw [hp]; exact H8.out k hkP
      obtain ⟨wa, hwa⟩ : ∃ wa, wa = wr.alloc (.cells #[.int .i64 p.1.id, .int .i64 p.1.ver, .string p.1.nm, .slice co p.1.cols.length cc, .int .i64 p.1.key] 29) := ⟨_, rfl⟩
      have ta : Tch (fun _ => False) wr wa := by rw [hwa]; exact Tch.alloc _ _ _
      have q := copied_any p.1 co cc wa (hck.sl.no ta) hck.no (by omega)
      have Hwa : Hid _ := hwa
      have Hp : Hid (p = P[k]) := hp
      have Hta : Hid _ := ta
      have HRl : Hid (R < wr.heap.size) := Nat.lt_of_lt_of_le HR1.out HT.out.size
      clear hTL hck hp hwa ta
      go_wp2_with fail
      have hwa := Hwa.out
      rw [← hwa]
      clear hwa c0 c1 c2 c3 c4
      refine q.mono ?_
      rintro y w2 ⟨⟨v, rfl, hv⟩, t2⟩
      clear q
      obtain ⟨vo, vc, hvv⟩ := row_slice hv
      subst hvv
      have T2 : Tch (fun _ => False) wr w2 := Hta.out.trans' t2
      have HL2 : Hid _ := HL.out.step hkP (by omega) T2 (v := .slice vo p.1.cols.length vc) (t0 := p.1) (by rw [← Hp.out]) (own_low hv (by exact Hta.out.size)) (by have := HRl.out; omega)
      obtain ⟨cur, h1, h2, _⟩ := (HL.out.tch T2 (fun _ _ h => h)).blk
      obtain ⟨⟨z0, e0⟩, ⟨z1, e1⟩, ⟨z2, e2⟩, ⟨z3, e3⟩, ⟨z4, e4⟩, hf⟩ := set5_cells h1 h2 (by omega : k < n) (.int .i64 p.1.id) (.int .i64 p.1.ver) (.string p.1.nm) (.slice vo p.1.cols.length vc)
      have f0 := hf (k * 5); have f1 := hf (k * 5 + 1); have f2 := hf (k * 5 + 2); have f3 := hf (k * 5 + 3); have f4 := hf (k * 5 + 4)
      have HT2 : Hid (Tch (fun i => i = R) w1 (((((w2.setCell ⟨R, k * 5, none⟩ (.int .i64 p.1.id)).setCell ⟨R, k * 5 + 1, none⟩ (.int .i64 p.1.ver)).setCell ⟨R, k * 5 + 2, none⟩ (.string p.1.nm)).setCell ⟨R, k * 5 + 3, none⟩ (.slice vo p.1.cols.length vc)).setCell ⟨R, k * 5 + 4, none⟩ (.int .i64 p.1.key))) := (((((HT.out.trans' (T2.mono (fun _ _ h => h.elim))).setCellR ⟨R, k * 5, none⟩ _ rfl).setCellR ⟨R, k * 5 + 1, none⟩ _ rfl).setCellR ⟨R, k * 5 + 2, none⟩ _ rfl).setCellR ⟨R, k * 5 + 3, none⟩ _ rfl).setCellR ⟨R, k * 5 + 4, none⟩ _ rfl
      clear h1 h2 hf hv T2 t2
      go_wp2_with fail
      go_roundw
      case rel => exact ⟨k + 1, _, by go_num, by omega, HL2, HT2⟩
      case measure => simp [intOf]; omega
    · have HF : Hid (ListOut (P.map Prod.fst) R (.returned (.slice (some ⟨R, 0, none⟩) n n)) wr ∧ Tch (fun _ => False) w wr) := by
        obtain rfl : k = n := by omega
        have h := HL.out
        obtain ⟨cur, h1, h2, h3⟩ := h.blk
        refine ⟨⟨_, Q, rfl, ?_, ⟨⟨?_, Or.inr ⟨R, k, cur, ?_, Nat.le_refl _, h1, ?_, ?_, h2, ?_⟩⟩, h.col, fun i hi g e e2 => ?_, h.dis⟩⟩, (HTL.out _ HT.out).2⟩
        · rw [h.eq, List.take_of_length_le (by have := Hn.out; omega)]
        · rw [tcl_len]
        · rw [h.len]
        · rw [h.len]; exact Nat.le_refl _
        · unfold maxLen; omega
        · rw [h.len]; exact h3
        · have e3 : R = g := by simpa [Value.ownBlock] using e2
          exact h.sep i hi g e e3.symm
      go_wp2_with fail
      go_ret
      exact HF.out

/-- A catalog of one's own. -/
structure CO (W : World) (base b : Nat) (L : List Tbl) (gv : Int) (P : List (Tbl × Value)) (tv : Value) : Prop where
  blk : W.heap[b]? = some (.cells #[tv, .int .i64 gv] 79 (0, 0))
  ge : base ≤ b
  eq : P.map Prod.fst = L
  to : TO W base tv P
  nb : tv.ownBlock ≠ some b ∧ ∀ i (hi : i < P.length), P[i].2.ownBlock ≠ some b
def CloneOut (L : List Tbl) (gv : Int) (base : Nat) (x : Ending) (w' : World) : Prop := ∃ d tv Q, x = .returned (.pointer (some ⟨d, 0, none⟩)) ∧ CO w' base d L gv Q tv
/-- A catalog, for reading. -/
structure CA (W : World) (F : Nat → Prop) (b : Nat) (L : List Tbl) (gv : Int) (P : List (Tbl × Value)) (to : Option Addr) (tc : Nat) : Prop where
  blk : W.heap[b]? = some (.cells #[.slice to P.length tc, .int .i64 gv] 79 (0, 0))
  eq : P.map Prod.fst = L
  tl : TL W (fun i => F i ∨ i = b) to P
  nb : ¬ F b
theorem CA.tch {S F : Nat → Prop} {W W' : World} {b : Nat} {L : List Tbl} {gv : Int} {P : List (Tbl × Value)} {to : Option Addr} {tc : Nat} (h : CA W F b L gv P to tc) (t : Tch S W W') (hS : ∀ i, i < W.heap.size → S i → F i) : CA W' F b L gv P to tc :=
  ⟨by rw [t.block b (blk_lt h.blk) (fun hs => h.nb (hS b (blk_lt h.blk) hs))]; exact h.blk, h.eq, h.tl.tch t (fun i hi hs => Or.inl (hS i hi hs)), h.nb⟩

set_option maxHeartbeats 2000000 in
set_option maxRecDepth 100000 in
theorem clone_any (b : Nat) (L : List Tbl) (gv : Int) (P : List (Tbl × Value)) (to : Option Addr) (tc : Nat) (F : Nat → Prop) (w : World) (h : CA w F b L gv P to tc) (hl : P.length ≤ 16) (h8 : ∀ i (hi : i < P.length), P[i].1.cols.length ≤ 8) :
    Calls Try.prog 24 #[.pointer (some ⟨b, 0, none⟩)] w fun x w' => CloneOut L gv w.heap.size x w' ∧ Tch (fun _ => False) w w' := by
  have HA : Hid (∀ W, Tch (fun _ => False) w W → Tch (fun _ => False) w W ∧ W.cell? ⟨b, 0, none⟩ = some (.slice to P.length tc) ∧ W.cell? ⟨b, 1, none⟩ = some (.int .i64 gv)) := fun W tW => by
    have h1 := (h.tch tW (fun _ _ h => h.elim)).blk
    exact ⟨tW, by rw [blk_cell h1]; rfl, by rw [blk_cell h1]; rfl⟩
  have Hq : Hid (∀ W, Tch (fun _ => False) w W → Calls Try.prog 20 #[.pointer (some ⟨b, 0, none⟩)] W fun x w' => ListOut L w.heap.size x w' ∧ Tch (fun _ => False) W w') := fun W tW => by
    refine (list_any b to tc P _ W (HA.out W tW).2.1 (h.tch tW (fun _ _ h => h.elim)).tl hl h8).mono ?_
    rintro x w' ⟨⟨tv, Q, hx, hQ, hTO⟩, t'⟩
    refine ⟨⟨tv, Q, hx, by rw [hQ, h.eq], ?_⟩, t'⟩
    exact ⟨own_low hTO.own tW.size, fun i hi => own_low (hTO.col i hi) tW.size, hTO.sep, hTO.dis⟩
  obtain ⟨_, b0, b1⟩ := HA.out w (Tch.refl _ _)
  clear h h8
  go_enter Try.func24, Try.ntmps24
  go_wp2_with fail
  have T0 : Tch (fun _ => False) w w := Tch.refl _ _
  go_region_held3 (fun W => Tch (fun _ => False) w W ∧ W.cell? ⟨b, 0, none⟩ = some (.slice to P.length tc) ∧ W.cell? ⟨b, 1, none⟩ = some (.int .i64 gv))
    ((refine HA.out _ ?_; first | assumption | exact (Tch.refl _ _).drew | exact Tch.allocR (by assumption) _))
    ((go_at_call 20; refine (Hq.out _ (show _ ∧ _ by assumption).1).mono ?_; rintro y w2 ⟨⟨tv, Q, rfl, hQ, hTO⟩, t2⟩; have V2 := Tch.trans' (show _ ∧ _ by assumption).1 t2; obtain ⟨tvo, tvc, htv⟩ := row_slice hTO.own; subst htv))
  have HF : Hid (CloneOut L gv w.heap.size (.returned (.pointer (some ⟨w2.heap.size, 0, none⟩))) (w2.alloc (.cells #[.slice tvo Q.length tvc, .int .i64 gv] 79))) := by
    have ta : Tch (fun _ => False) w2 (w2.alloc (.cells #[.slice tvo Q.length tvc, .int .i64 gv] 79)) := Tch.alloc _ _ _
    refine ⟨w2.heap.size, .slice tvo Q.length tvc, Q, rfl, alloc_new _ _, V2.size, hQ, hTO.tch ta (fun _ _ _ h => h), fun e => ?_, fun i hi e => ?_⟩
    · have := (hTO.own.lt _ e).2; omega
    · have := ((hTO.col i hi).lt _ e).2; omega
  have HT : Hid (Tch (fun _ => False) w (w2.alloc (.cells #[.slice tvo Q.length tvc, .int .i64 gv] 79))) := V2.allocR _
  clear hQ hTO
  go_wp2_with fail
  go_ret
  exact ⟨HF.out, HT.out⟩
end Go.Proofs.Ytblhmjndegfofaa
