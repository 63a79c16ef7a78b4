import Derived.Test.YteaagnlhkopgdaaGreatDoorVPrint
import Derived.Test.YteaagnlhkopgdaaGreatDoorRV4
import Derived.Test.YteaagnlhkopgdaaGreatDoorVRDec
import Derived.Deep.LoopGhost
import Derived.Maps.AppendAt
import Derived.Deep.DeepCutAuto
import Derived.Deep.CutRange
set_option maxHeartbeats 4000000
set_option maxRecDepth 100000
namespace Go.Proofs.YteaagnlhkopgdaaGreatDoor.C
open Go.RowKit Go Go.Sort
theorem dtext_any (b : Nat) (p : Ds) (w : World) (h : DB w b p) (m : Nat) :
    Calls Tryz.prog 66 #[.pointer (some ⟨b, 0, none⟩), .int .i64 (m : Int)] w fun x w' => x = .returned (.string (dText m p).1) ∧ DB w' b (dText m p).2 ∧ Tch (fun i => i = b) w w' := by
  have q1 := dnum_any b p w h
  clear h
  obtain ⟨n, hn⟩ : ∃ n, n = (dNum p).1 := ⟨_, rfl⟩
  obtain ⟨p1, hp1⟩ : ∃ p1, p1 = (dNum p).2 := ⟨_, rfl⟩
  obtain ⟨p2, hp2⟩ : ∃ p2, p2 = dMost m (dNum p) := ⟨_, rfl⟩
  have HE : Hid (dText m p = (bB (dRaw n p2).1, (dRaw n p2).2)) := by show _ = _; rw [hn, hp2]; rfl
  have HP2 : Hid (p2 = if m < n then (p1.1, true) else p1) := by show _ = _; rw [hp2, hn, hp1]; rfl
  rw [← hn, ← hp1] at q1
  clear hn hp1 hp2
  by_cases hc : (m : Int) < (n : Int)
  · have HP3 : Hid (p2 = (p1.1, true)) := by show _ = _; rw [HP2.out, if_pos (by omega)]
    clear HP2
    go_enter Tryz.func66, Tryz.ntmps66
    go_wp2_with fail
    refine q1.mono ?_
    rintro x w1 ⟨rfl, h1, t1⟩
    have c1 : w1.cell? ⟨b, 1, none⟩ = some (.bool p1.2) := blk_cell h1 1
    have f1 := blk_frozen h1 1
    have hb := bad_set (l := p1.1) (d := p1.2) h1
    have q2 := draw_any b n (p1.1, true) _ hb.1
    rw [← HP3.out] at q2
    have HT : Hid (Tch (fun i => i = b) w (w1.setCell ⟨b, 1, none⟩ (.bool true))) := t1.trans' hb.2
    clear q1 h1 hb t1
    go_wp2_with fail
    refine q2.mono ?_
    rintro x w2 ⟨rfl, h2, t2⟩
    clear q2 c1 f1
    go_wp2_with fail
    go_ret
    rw [HE.out]
    exact ⟨rfl, h2, HT.out.trans' t2⟩
  · have HP3 : Hid (p2 = p1) := by show _ = _; rw [HP2.out, if_neg (by omega)]
    clear HP2
    go_enter Tryz.func66, Tryz.ntmps66
    go_wp2_with fail
    refine q1.mono ?_
    rintro x w1 ⟨rfl, h1, t1⟩
    have q2 := draw_any b n p1 w1 h1
    rw [← HP3.out] at q2
    clear q1 h1
    go_wp2_with fail
    refine q2.mono ?_
    rintro x w2 ⟨rfl, h2, t2⟩
    go_wp2_with fail
    go_ret
    rw [HE.out]
    exact ⟨rfl, h2, t1.trans' t2⟩
theorem dRaw_len (n : Int) (p : Ds) : (dRaw n p).1.length ≤ p.1.length ∧ (dRaw n p).2.1.length ≤ p.1.length := by
  unfold dRaw
  split
  · simp
  · simp [List.length_take, List.length_drop]; omega
theorem dByte_len (p : Ds) : (dByte p).2.1.length ≤ p.1.length := by
  unfold dByte
  split <;> simp
theorem dDg_len : ∀ (f i n : Nat) (p : Ds), (dDg f i n p).2.1.length ≤ p.1.length
  | 0, i, n, p => Nat.le_refl _
  | f + 1, i, n, p => by
    have h := dByte_len p
    unfold dDg
    split
    · exact h
    · split
      · exact h
      · exact Nat.le_trans (dDg_len f _ _ _) h
theorem dNum_len (p : Ds) : (dNum p).2.1.length ≤ p.1.length := dDg_len 5 0 0 p
theorem dMost_len (m : Nat) (q : Nat × Ds) : (dMost m q).1.length ≤ q.2.1.length := by
  unfold dMost
  split <;> exact Nat.le_refl _
theorem dText_len (m : Nat) (p : Ds) : (dText m p).1.size ≤ p.1.length ∧ (dText m p).2.1.length ≤ p.1.length := by
  have h1 := dNum_len p
  have h2 := dRaw_len (dNum p).1 (dMost m (dNum p))
  have h3 := dMost_len m (dNum p)
  have e : (dText m p).1.size = (dRaw (dNum p).1 (dMost m (dNum p))).1.length := by
    show (List.toArray _).size = _
    simp
  have e2 : (dText m p).2 = (dRaw (dNum p).1 (dMost m (dNum p))).2 := rfl
  rw [e, e2]
  omega
theorem sl_rowOf {w : World} {ro : Option Addr} {vs : List Val} (h : RowOf w ro vs) : SL w ro (vcl vs) := fun hne => by
  have hv : vs ≠ [] := by rintro rfl; exact hne rfl
  obtain ⟨g, o, e, ha⟩ := h hv
  refine ⟨g, o, e, fun j u hu => ?_⟩
  have hj : j < vs.length * 3 := by rw [← vcl_len]; exact (List.getElem?_eq_some_iff.1 hu).1
  obtain ⟨q, r, rfl, hr⟩ : ∃ q r, j = q * 3 + r ∧ r < 3 := ⟨j / 3, j % 3, by omega, by omega⟩
  have hq : q < vs.length := by omega
  obtain ⟨a0, a1, a2⟩ := ha q hq
  unfold vcl at hu
  obtain ⟨g0, g1, g2⟩ := f3_get (fun v : Val => Value.int .i64 v.k) (fun v => .int .i64 v.n) (fun v => .string v.s) vs q hq
  rcases (by omega : r = 0 ∨ r = 1 ∨ r = 2) with rfl | rfl | rfl
  · rw [Nat.add_zero] at hu ⊢; rw [g0] at hu; rw [a0, hu]
  · rw [g1] at hu; rw [← Nat.add_assoc, a1, hu]
  · rw [g2] at hu; rw [← Nat.add_assoc, a2, hu]
def DRo (p : Ds) (N : Nat) (x : Ending) (w' : World) : Prop := ∃ ro c, x = .returned (.slice ro (dRow p).1.length c) ∧ SL w' ro (vcl (dRow p).1) ∧ ∀ g o, ro = some ⟨g, o, none⟩ → N ≤ g
theorem dRow_i64 (p : Ds) : ∀ v ∈ (dRow p).1, v.i64 ∧ (dRow p).1.length ≤ 8 := fun v hv => by
  unfold dRow at hv ⊢
  cases h : decR (dText 1700 p).1 with
  | none => rw [h] at hv; cases hv
  | some vs =>
    rw [h] at hv
    exact ⟨((dec_enc h).2.2 v hv).2, (dec_enc h).2.1⟩
theorem drow_any (b : Nat) (p : Ds) (w : World) (h : DB w b p) (hl : p.1.length ≤ 281474976710656) :
    Calls Tryz.prog 43 #[.pointer (some ⟨b, 0, none⟩)] w fun x w' => DRo p w.heap.size x w' ∧ DB w' b (dRow p).2 ∧ Tch (fun i => i = b) w w' := by
  have q1 := dtext_any b p w h 1700
  have hT := (dText_len 1700 p).1
  clear h
  unfold DRo
  have e0 : dRow p = match decR (dText 1700 p).1 with
    | some vs => (vs, (dText 1700 p).2)
    | none => ([], ((dText 1700 p).2.1, true)) := rfl
  obtain ⟨T, hTe⟩ : ∃ T, T = (dText 1700 p).1 := ⟨_, rfl⟩
  obtain ⟨p1, hp1⟩ : ∃ p1, p1 = (dText 1700 p).2 := ⟨_, rfl⟩
  rw [← hTe, ← hp1] at q1 e0
  rw [← hTe] at hT
  have hTs : T.size ≤ 281474976710656 := by omega
  have HD : Hid (∀ W, Calls Tryz.prog 67 #[.string T] W fun x w' => RDecOut T W x w' ∧ Tch (fun _ => False) W w') := fun W => rdecode_any T W hTs
  have HE0 : Hid _ := e0
  clear hTe hp1 hT hTs hl e0
  go_enter Tryz.func43, Tryz.ntmps43
  go_wp2_with fail
  refine q1.mono ?_
  rintro x w1 ⟨rfl, h1, t1⟩
  have H1 : Hid (DB w1 b p1) := h1
  clear q1 h1
  go_wp2_with fail
  refine (HD.out w1).mono ?_
  rintro x w2 ⟨hO, t2⟩
  have H2 : Hid (DB w2 b p1) := H1.out.no t2
  have HT : Hid (Tch (fun i => i = b) w w2) := t1.trans' (t2.mono (fun _ _ h => h.elim))
  have hz := t1.size
  unfold RDecOut at hO
  cases hd : decR T with
  | none =>
    rw [hd] at hO
    have hO : x = .returned (.tuple #[.slice none 0 0, .int .i64 43]) := hO
    subst hO
    have HE : Hid (dRow p = ([], (p1.1, true))) := by show _ = _; rw [HE0.out, hd]
    have c1 : w2.cell? ⟨b, 1, none⟩ = some (.bool p1.2) := blk_cell H2.out 1
    have f1 := blk_frozen H2.out 1
    clear HE0 hd t1 t2 H1 HD
    go_wp2_with fail
    go_ret
    rw [HE.out]
    have hq := bad_set (l := p1.1) (d := p1.2) H2.out
    exact ⟨⟨none, 0, rfl, SL.nil _ _, fun g o e => by cases e⟩, hq.1, HT.out.trans' hq.2⟩
  | some vs =>
    rw [hd] at hO
    obtain ⟨ro, c, rfl, hro, hg⟩ := hO
    have HE : Hid (dRow p = (vs, p1)) := by show _ = _; rw [HE0.out, hd]
    have HR : Hid (RowOf w2 ro vs) := hro
    have HG : Hid (∀ g o, ro = some ⟨g, o, none⟩ → w.heap.size ≤ g) := fun g o e => by have := hg g o e; omega
    clear HE0 hd t1 t2 H1 HD hro hg hz
    go_wp2_with fail
    go_ret
    rw [HE.out]
    exact ⟨⟨ro, c, rfl, sl_rowOf HR.out, HG.out⟩, H2.out, HT.out⟩
theorem wpList_app9 {P : Program} (w : World) {ops : Array Oper} {rest : List Oper} {o : Oper} {a : Act} {Q : Exit → Act → World → Prop} (hgd : o.guard = none) (s x : Operand) (t : TypeId)
    (ho : o.op = .call { callee := .builtin .append, args := #[s, x], argTypes := #[t, t] }) (hty : o.type = t) (v u : Value) (hs : a.eval s = v) (hx : a.eval x = u) {v' : Value} {w' : World}
    (hr : (Builtin.append_ #[t, t] t #[v, u]).run P w = .ok v' w') (h : wpList P ops Q rest (a.put o.dst v') w') : wpList P ops Q (o :: rest) a w := by
  refine wpList_plain hgd fun K hK => ?_
  unfold Oper.wp execOp
  simp only [ho, hty, resolve, invoke, builtin, Sem.run_bind, Sem.run_pure, Result.andThen_ok, List.map_toArray, List.map_cons, List.map_nil, hs, hx, hr]
  exact hK _ _ h
theorem dCols_stop {n : Nat} {p : Ds} {l : List Col} (h : n = 0 ∨ p.2 = true) : dCols n p l = (l, p) := by
  cases n with
  | zero => rfl
  | succ n => unfold dCols; rw [if_pos (h.resolve_left (by omega))]
theorem dCols_go {n k : Nat} {p : Ds} {l : List Col} (hk : k < n) (h : p.2 = false) : dCols (n - k) p l = dCols (n - (k + 1)) (dCol p).2 (l ++ [(dCol p).1]) := by
  rw [show n - k = (n - (k + 1)) + 1 by omega]
  conv => lhs; unfold dCols
  rw [if_neg (by rw [h]; simp)]
structure TR (w0 wr : World) (b N n k : Nat) (i1 i2 : Int) (nm : ByteArray) (A5 : List Col × Ds) (p : Ds) (l : List Col) (vo : Option Addr) (vc : Nat) : Prop where
  len : l.length = k
  eq : dCols (n - k) p l = A5
  db : DB wr b p
  bx : wr.heap[N + 1]? = some (.cells #[.int .i64 i1, .int .i64 i2, .string nm, .slice vo k vc, .int .i64 0] 24 (0, 0))
  own : wr.ownsRow (N + 2) 54 3 (.slice vo k vc) k (ccl l)
  t : Tch (fun g => g = b ∨ N + 1 ≤ g) w0 wr
theorem TR.add {w0 wr w9 : World} {b N n k : Nat} {i1 i2 : Int} {nm : ByteArray} {A5 : List Col × Ds} {p p' : Ds} {l : List Col} {vo : Option Addr} {vc : Nat} (J : TR w0 wr b N n k i1 i2 nm A5 p l vo vc) (hb : b < N) (hz0 : w0.heap.size = N + 2) (c : Col) (h9 : DB w9 b p') (t9 : Tch (fun g => g = b ∨ wr.heap.size ≤ g) wr w9) (heq : dCols (n - (k + 1)) p' (l ++ [c]) = A5) (hk : k < 255) :
    ∃ vo' vc' w11, (Builtin.append_ #[22, 22] 22 #[.slice vo k vc, .slice (some ⟨w9.heap.size, 0, none⟩) 1 1]).run Tryz.prog (w9.alloc (.cells #[.string c.nm, .int .i64 c.k, .bool c.nl] 54)) = .ok (.slice vo' (k + 1) vc') w11 ∧ w11.cell? ⟨N + 1, 3, none⟩ = some (.slice vo k vc) ∧ w11.frozen? ⟨N + 1, 3, none⟩ = false ∧ TR w0 (w11.setCell ⟨N + 1, 3, none⟩ (.slice vo' (k + 1) vc')) b N n (k + 1) i1 i2 nm A5 p' (l ++ [c]) vo' vc' := by
  obtain ⟨i0, hi0, hz0', hz1, hz2⟩ := info_parts info_col
  obtain ⟨w10, hw10⟩ : ∃ w10, w10 = w9.alloc (.cells #[.string c.nm, .int .i64 c.k, .bool c.nl] 54) := ⟨_, rfl⟩
  rw [← hw10]
  have t10 : Tch (fun _ => False) w9 w10 := by rw [hw10]; exact Tch.alloc _ _ _
  have b10 : w10.heap[w9.heap.size]? = some (.cells #[.string c.nm, .int .i64 c.k, .bool c.nl] 54 (0, 0)) := by rw [hw10]; exact heap_new w9 _
  have hzr : N + 2 ≤ wr.heap.size := by have := J.t.size; omega
  have T10 : Tch (fun g => g = b ∨ wr.heap.size ≤ g) wr w10 := t9.trans t10 (fun _ _ e => e.elim)
  have ho10 : w10.ownsRow (N + 2) 54 3 (.slice vo k vc) k (ccl l) := own_tch J.own T10 (fun g hg e => by
    have h1 := J.own.lt g hg
    rcases e with e | e
    · omega
    · omega)
  obtain ⟨v', w11, hr, hown, hgr, _, hat⟩ := run_append_own_at (P := Tryz.prog) w10 (N + 2) 22 22 54 i0 _ 3 32 Tryz.underlying22 hi0 hz0' hz1 hz2 rfl (by decide) _ _ _ ho10 ⟨w9.heap.size, 0, none⟩ 1 1 [.string c.nm, .int .i64 c.k, .bool c.nl] rfl (fun j u hu => by rw [add_plain, Nat.zero_add, blk_cell b10, ← Array.getElem?_toList]; exact hu) (fun u hu => by
      simp only [List.mem_cons, List.not_mem_nil, or_false] at hu
      rcases hu with rfl | rfl | rfl <;> rfl) (by unfold maxLen; omega) (by omega) (by have := T10.size; omega)
  obtain ⟨vo', vc', rfl⟩ := row_slice hown
  have tG : Tch (fun g => (Value.slice vo k vc).ownBlock = some g) w10 w11 := grown_at (Tch.refl (fun _ => False) w10) hgr |>.mono (fun _ _ h => h)
  have hnb : ∀ g, (Value.slice vo k vc).ownBlock = some g → N + 2 ≤ g := fun g hg => (J.own.lt g hg).1
  have bx11 : w11.heap[N + 1]? = some (.cells #[.int .i64 i1, .int .i64 i2, .string nm, .slice vo k vc, .int .i64 0] 24 (0, 0)) := by
    rw [tG.block (N + 1) (by have := T10.size; omega) (fun e => by have := hnb _ e; omega), T10.block (N + 1) (by omega) (by omega)]
    exact J.bx
  refine ⟨vo', vc', w11, hr, blk_cell bx11 3, blk_frozen bx11 3, ?_⟩
  have tS : Tch (fun g => g = N + 1) w11 (w11.setCell ⟨N + 1, 3, none⟩ (.slice vo' (k + 1) vc')) := Tch.setCell (fun g => g = N + 1) w11 ⟨N + 1, 3, none⟩ _ rfl
  refine ⟨by rw [List.length_append, J.len]; rfl, heq, ?_, by rw [blk_set bx11]; rfl, ?_, ?_⟩
  · exact (((h9.no t10).tch tG (fun e => by have := hnb _ e; omega)).tch tS (by omega))
  · rw [ccl_snoc]
    exact own_tch hown tS (fun g hg e => by have := (hown.lt g hg).1; omega)
  · refine ((J.t.trans T10 (fun g hg e => ?_)).trans tG (fun g hg e => .inr (by have := hnb _ e; omega))).trans tS (fun g hg e => .inr (by omega))
    rcases e with e | e
    · exact .inl e
    · exact .inr (by omega)
end Go.Proofs.YteaagnlhkopgdaaGreatDoor.C
namespace Go.Proofs.YteaagnlhkopgdaaGreatDoor.C
open Go.RowKit Go Go.Sort
abbrev z5 : Array Value := #[.int .i64 0, .int .i64 0, .string ⟨#[]⟩, .slice none 0 0, .int .i64 0]
theorem dtab_any (b : Nat) (p : Ds) (w : World) (h : DB w b p) :
    Calls Tryz.prog 42 #[.pointer (some ⟨b, 0, none⟩)] w fun x w' => (∃ v, x = .returned (tA (dTab p).1.id (dTab p).1.ver (dTab p).1.nm v (dTab p).1.key) ∧ w'.ownsRow w.heap.size 54 3 v (dTab p).1.cols.length (ccl (dTab p).1.cols)) ∧ DB w' b (dTab p).2 ∧ Tch (fun i => i = b) w w' := by
  obtain ⟨N, hN⟩ : ∃ N, N = w.heap.size := ⟨_, rfl⟩
  obtain ⟨w0, hw0⟩ : ∃ w0, w0 = (w.alloc (.cells #[.int .i64 0, .int .i64 0, .string ⟨#[]⟩, .slice none 0 0, .int .i64 0] 24)).alloc (.cells #[.int .i64 0, .int .i64 0, .string ⟨#[]⟩, .slice none 0 0, .int .i64 0] 24) := ⟨_, rfl⟩
  have hbN : b < N := by rw [hN]; exact blk_lt h
  have t0 : Tch (fun _ => False) w w0 := by rw [hw0]; exact (Tch.alloc _ _ _).allocR _
  have hz0 : w0.heap.size = N + 2 := by rw [hw0, hN, World.size_alloc, World.size_alloc]
  have bR : w0.heap[N]? = some (.cells #[.int .i64 0, .int .i64 0, .string ⟨#[]⟩, .slice none 0 0, .int .i64 0] 24 (0, 0)) := by
    rw [hw0, hN]; exact (Tch.alloc (fun _ => False) _ _).block _ (by simp) (fun h => h) |>.trans (alloc_new _ _)
  have bB0 : w0.heap[N + 1]? = some (.cells #[.int .i64 0, .int .i64 0, .string ⟨#[]⟩, .slice none 0 0, .int .i64 0] 24 (0, 0)) := by
    rw [hw0, hN, ← World.size_alloc]; exact alloc_new _ _
  have q1 := dnum_any b p w0 (h.no t0)
  unfold dTab
  simp only
  obtain ⟨A1, hA1⟩ : ∃ A, A = dNum p := ⟨_, rfl⟩
  rw [← hA1] at q1 ⊢
  obtain ⟨A2, hA2⟩ : ∃ A, A = dNum A1.2 := ⟨_, rfl⟩
  rw [← hA2]
  obtain ⟨A3, hA3⟩ : ∃ A, A = dText 16 A2.2 := ⟨_, rfl⟩
  rw [← hA3]
  obtain ⟨A4, hA4⟩ : ∃ A, A = dByte A3.2 := ⟨_, rfl⟩
  have hn := dByte_lt A3.2
  rw [← hA4] at hn ⊢
  obtain ⟨A5, hA5⟩ : ∃ A, A = dCols A4.1 A4.2 [] := ⟨_, rfl⟩
  rw [← hA5]
  obtain ⟨A6, hA6⟩ : ∃ A, A = dByte A5.2 := ⟨_, rfl⟩
  rw [← hA6]
  have HA : Hid (A2 = dNum A1.2 ∧ A3 = dText 16 A2.2 ∧ A4 = dByte A3.2 ∧ A6 = dByte A5.2) := ⟨hA2, hA3, hA4, hA6⟩
  have HA5 : Hid (A5 = dCols A4.1 A4.2 []) := hA5
  obtain ⟨i1, hi1⟩ : ∃ i1 : Int, i1 = (A1.1 : Int) := ⟨_, rfl⟩
  obtain ⟨i2, hi2⟩ : ∃ i2 : Int, i2 = (A2.1 : Int) := ⟨_, rfl⟩
  obtain ⟨nm, hnm⟩ : ∃ nm, nm = A3.1 := ⟨_, rfl⟩
  obtain ⟨n, hnn⟩ : ∃ n, n = A4.1 := ⟨_, rfl⟩
  rw [← hi1] at q1 ⊢
  rw [← hi2, ← hnm]
  rw [← hnn] at hn
  have HI : Hid (i1 = (A1.1 : Int) ∧ i2 = (A2.1 : Int) ∧ nm = A3.1 ∧ n = A4.1) := ⟨hi1, hi2, hnm, hnn⟩
  have HT0 : Hid (Tch (fun _ => False) w w0) := t0
  have HW0 : Hid (w0 = _) := hw0
  have HN : Hid (N = w.heap.size) := hN
  have HBR : Hid _ := bR
  have HBB : Hid _ := bB0
  rw [← hN]
  clear hA1 hA2 hA3 hA4 hA5 hA6 h hw0 t0 bR bB0 hi1 hi2 hnm hnn hN
  go_enter Tryz.func42, Tryz.ntmps42
  go_upto_region 2 with (fail)
  rw [← HW0.out, ← HN.out]
  go_wp2_with fail
  refine q1.mono ?_
  rintro x w1 ⟨rfl, h1, t1⟩
  have b1 := (t1.block (N + 1) (by omega) (by omega)).trans HBB.out
  have x0 : w1.cell? ⟨N + 1, 0, none⟩ = some (.int .i64 0) := blk_cell b1 0
  have f0 := blk_frozen b1 0
  obtain ⟨w2, hw2⟩ : ∃ w2, w2 = w1.setCell ⟨N + 1, 0, none⟩ (.int .i64 i1) := ⟨_, rfl⟩
  have t2 : Tch (fun g => g = N + 1) w1 w2 := by rw [hw2]; exact Tch.setCell (fun g => g = N + 1) w1 ⟨N + 1, 0, none⟩ _ rfl
  have b2 : w2.heap[N + 1]? = some (.cells #[.int .i64 i1, .int .i64 0, .string ⟨#[]⟩, .slice none 0 0, .int .i64 0] 24 (0, 0)) := by rw [hw2, blk_set b1]; rfl
  have q2 := dnum_any b A1.2 w2 (h1.tch t2 (by omega))
  rw [← HA.out.1, ← HI.out.2.1] at q2
  have HT2 : Hid (Tch (fun g => g = b ∨ N + 1 ≤ g) w0 w2) := (t1.mono (fun _ _ e => .inl e)).trans t2 (fun g _ e => .inr (by omega))
  have HB2 : Hid _ := b2
  have HW2 : Hid (w2 = _) := hw2
  clear q1 h1 t1 b1 hw2 t2 b2
  go_upto_region 3 with (fail)
  rw [← HW2.out]
  clear x0 f0 HW2
  go_wp2_with fail
  refine q2.mono ?_
  rintro x w3 ⟨rfl, h3, t3⟩
  have hz2 := HT2.out.size
  have b3 := (t3.block (N + 1) (by omega) (by omega)).trans HB2.out
  have x1 : w3.cell? ⟨N + 1, 1, none⟩ = some (.int .i64 0) := blk_cell b3 1
  have f1 := blk_frozen b3 1
  obtain ⟨w4, hw4⟩ : ∃ w4, w4 = w3.setCell ⟨N + 1, 1, none⟩ (.int .i64 i2) := ⟨_, rfl⟩
  have t4 : Tch (fun g => g = N + 1) w3 w4 := by rw [hw4]; exact Tch.setCell (fun g => g = N + 1) w3 ⟨N + 1, 1, none⟩ _ rfl
  have b4 : w4.heap[N + 1]? = some (.cells #[.int .i64 i1, .int .i64 i2, .string ⟨#[]⟩, .slice none 0 0, .int .i64 0] 24 (0, 0)) := by rw [hw4, blk_set b3]; rfl
  have q3 := dtext_any b A2.2 w4 (h3.tch t4 (by omega)) 16
  rw [← HA.out.2.1, ← HI.out.2.2.1] at q3
  have HT4 : Hid (Tch (fun g => g = b ∨ N + 1 ≤ g) w0 w4) := (HT2.out.trans t3 (fun g _ e => .inl e)).trans t4 (fun g _ e => .inr (by omega))
  have HB4 : Hid _ := b4
  have HW4 : Hid (w4 = _) := hw4
  clear q2 h3 t3 b3 hw4 t4 b4 HT2 HB2 hz2
  go_upto_region 4 with (fail)
  rw [← HW4.out]
  clear x1 f1 HW4
  go_wp2_with fail
  refine q3.mono ?_
  rintro x w5 ⟨rfl, h5, t5⟩
  have hz4 := HT4.out.size
  have b5 := (t5.block (N + 1) (by omega) (by omega)).trans HB4.out
  have x2 : w5.cell? ⟨N + 1, 2, none⟩ = some (.string ⟨#[]⟩) := blk_cell b5 2
  have f2 := blk_frozen b5 2
  obtain ⟨w6, hw6⟩ : ∃ w6, w6 = w5.setCell ⟨N + 1, 2, none⟩ (.string nm) := ⟨_, rfl⟩
  have t6 : Tch (fun g => g = N + 1) w5 w6 := by rw [hw6]; exact Tch.setCell (fun g => g = N + 1) w5 ⟨N + 1, 2, none⟩ _ rfl
  have b6 : w6.heap[N + 1]? = some (.cells #[.int .i64 i1, .int .i64 i2, .string nm, .slice none 0 0, .int .i64 0] 24 (0, 0)) := by rw [hw6, blk_set b5]; rfl
  have q4 := dbyte_any b A3.2 w6 (h5.tch t6 (by omega))
  rw [← HA.out.2.2.1, ← HI.out.2.2.2] at q4
  have HT6 : Hid (Tch (fun g => g = b ∨ N + 1 ≤ g) w0 w6) := (HT4.out.trans t5 (fun g _ e => .inl e)).trans t6 (fun g _ e => .inr (by omega))
  have HB6 : Hid _ := b6
  have HW6 : Hid (w6 = _) := hw6
  clear q3 h5 t5 b5 hw6 t6 b6 HT4 HB4 hz4
  go_upto_region 5 with (fail)
  rw [← HW6.out]
  clear x2 f2 HW6
  go_wp2_with fail
  refine q4.mono ?_
  rintro x w7 ⟨rfl, h7, t7⟩
  have hz6 := HT6.out.size
  have HJ : Hid (TR w0 w7 b N n 0 i1 i2 nm A5 A4.2 [] none 0) := ⟨rfl, by rw [HA5.out, HI.out.2.2.2]; rfl, h7, (t7.block (N + 1) (by omega) (by omega)).trans HB6.out, World.ownsRow_nil _ _ _ _, HT6.out.trans t7 (fun g _ e => .inl e)⟩
  clear q4 h7 t7 HT6 HB6 hz6
  go_wp2_with fail
  go_loopg [5, 6] 255 (fun kx s5 s6 wr => ∃ (k : Nat) (p' : Ds) (l : List Col) (vo : Option Addr) (vc : Nat), s5 = .int .i64 k ∧ n - k ≤ kx ∧ k ≤ n ∧ Hid (TR w0 wr b N n k i1 i2 nm A5 p' l vo vc))
  case atStart => exact ⟨0, A4.2, [], none, 0, rfl, by omega, by omega, HJ⟩
  case round =>
    rename World => wr
    obtain ⟨k, p', l, vo, vc, rfl, hkx, hkn, J⟩ := hrel
    have c1 : wr.cell? ⟨b, 1, none⟩ = some (.bool p'.2) := blk_cell J.out.db 1
    obtain ⟨bad, hbad⟩ : ∃ bad, bad = p'.2 := ⟨_, rfl⟩
    rw [← hbad] at c1
    have Hbad : Hid (bad = p'.2) := hbad
    clear hbad
    obtain ⟨d, hd⟩ : ∃ d : Bool, d = true ↔ k < n ∧ bad = false := ⟨decide (k < n ∧ bad = false), by simp⟩
    have hend : d = false → (n - k = 0 ∨ p'.2 = true) := fun e => by
      rw [← Hbad.out]
      cases bad with
      | true => exact .inr rfl
      | false =>
        left
        have : ¬ k < n := fun h => by rw [hd.2 ⟨h, rfl⟩] at e; cases e
        omega
    have HEnd : Hid (d = false → (n - k = 0 ∨ p'.2 = true)) := hend
    go_upto_region 7 with (fail)
    go_cut [28] from 19 to 47 (fun s27 wc => s27 = .bool d ∧ wc = wr)
    case first =>
      clear hend HEnd
      by_cases hk1 : k < n
      · have hk1' : (k : Int) < (n : Int) := by omega
        cases bad with
        | false =>
          have hdt : d = true := hd.2 ⟨hk1, rfl⟩
          clear hd
          subst hdt
          go_wp2_with fail
          go_meet
          case rel => exact ⟨rfl, rfl⟩
        | true =>
          have hdt : d = false := by cases d with
            | false => rfl
            | true => exact absurd (hd.1 rfl).2 (by simp)
          clear hd
          subst hdt
          go_wp2_with fail
          go_meet
          case rel => exact ⟨rfl, rfl⟩
      · have hk1' : ¬ (k : Int) < (n : Int) := by omega
        have hdt : d = false := by cases d with
          | false => rfl
          | true => exact absurd (hd.1 rfl).1 hk1
        clear hd
        subst hdt
        go_wp2_with fail
        go_meet
        case rel => exact ⟨rfl, rfl⟩
    case rest =>
     obtain ⟨rfl, rfl⟩ := hcut
     rename World => wr
     cases d with
     | true =>
      obtain ⟨hk1, hb0⟩ := hd.1 rfl
      have hst := dCols_go (l := l) hk1 (Hbad.out.symm.trans hb0)
      rw [J.out.eq] at hst
      obtain ⟨M, hM⟩ : ∃ M, M = wr.heap.size := ⟨_, rfl⟩
      obtain ⟨v1, hv1⟩ : ∃ v1, v1 = wr.alloc (.cells #[.string ⟨#[]⟩, .int .i64 0, .bool false] 54) := ⟨_, rfl⟩
      have s1 : Tch (fun _ => False) wr v1 := by rw [hv1]; exact Tch.alloc _ _ _
      have d1 : v1.heap[M]? = some (.cells #[.string ⟨#[]⟩, .int .i64 0, .bool false] 54 (0, 0)) := by rw [hv1, hM]; exact alloc_new _ _
      have hbM : b < M := by rw [hM]; exact blk_lt J.out.db
      have q5 := dtext_any b p' v1 (J.out.db.no s1) 16
      obtain ⟨c, hc⟩ : ∃ c, c = (dCol p').1 := ⟨_, rfl⟩
      obtain ⟨p9, hp9⟩ : ∃ p9, p9 = (dCol p').2 := ⟨_, rfl⟩
      obtain ⟨B1, hB1⟩ : ∃ B, B = dText 16 p' := ⟨_, rfl⟩
      obtain ⟨B2, hB2⟩ : ∃ B, B = dByte B1.2 := ⟨_, rfl⟩
      obtain ⟨B3, hB3⟩ : ∃ B, B = dByte B2.2 := ⟨_, rfl⟩
      have ec : c = ⟨B1.1, B2.1, decide (B3.1 = 1)⟩ := by rw [hc, hB3, hB2, hB1]; rfl
      have e9 : p9 = B3.2 := by rw [hp9, hB3, hB2, hB1]; rfl
      rw [← hc, ← hp9] at hst
      have hcn : c.nm = B1.1 := by rw [ec]
      have hck : c.k = (B2.1 : Int) := by rw [ec]
      have hcd : ((B3.1 : Int) == 1) = c.nl := by
        rw [ec]
        by_cases e : B3.1 = 1
        · rw [e]; rfl
        · have e' : ¬ (B3.1 : Int) = 1 := by omega
          simp [e, e']
      rw [← hB1, ← hcn] at q5
      have HBs : Hid (B2 = dByte B1.2 ∧ B3 = dByte B2.2) := ⟨hB2, hB3⟩
      have HC : Hid (c.k = (B2.1 : Int) ∧ p9 = B3.2) := ⟨hck, e9⟩
      have HST : Hid (dCols (n - (k + 1)) p9 (l ++ [c]) = A5) := hst.symm
      have HS1 : Hid (Tch (fun g => g = b ∨ M ≤ g) wr v1) := s1.mono (fun _ _ e => e.elim)
      have HM : Hid (M = wr.heap.size) := hM
      have HV1 : Hid (v1 = _) := hv1
      have HD1 : Hid _ := d1
      have hM1 : M < v1.heap.size := blk_lt d1
      clear hc hp9 hB1 hB2 hB3 ec e9 hcn hck hst hM hv1 s1 d1 hb0 hend HEnd c1 Hbad hd
      go_upto_region 10 with (fail)
      rw [← HV1.out, ← HM.out]
      go_wp2_with fail
      refine q5.mono ?_
      rintro x v2 ⟨rfl, h2, s2⟩
      have d2 := (s2.block M hM1 (by omega)).trans HD1.out
      have y0 : v2.cell? ⟨M, 0, none⟩ = some (.string ⟨#[]⟩) := blk_cell d2 0
      have g0 := blk_frozen d2 0
      obtain ⟨v3, hv3⟩ : ∃ v3, v3 = v2.setCell ⟨M, 0, none⟩ (.string c.nm) := ⟨_, rfl⟩
      have s3 : Tch (fun g => g = M) v2 v3 := by rw [hv3]; exact Tch.setCell (fun g => g = M) v2 ⟨M, 0, none⟩ _ rfl
      have d3 : v3.heap[M]? = some (.cells #[.string c.nm, .int .i64 0, .bool false] 54 (0, 0)) := by rw [hv3, blk_set d2]; rfl
      have q6 := dbyte_any b B1.2 v3 (h2.tch s3 (by omega))
      rw [← HBs.out.1, ← HC.out.1] at q6
      have HS3 : Hid (Tch (fun g => g = b ∨ M ≤ g) wr v3) := (HS1.out.trans s2 (fun g _ e => .inl e)).trans s3 (fun g _ e => .inr (by omega))
      have HD3 : Hid _ := d3
      have HV3 : Hid (v3 = _) := hv3
      have hM3 : M < v3.heap.size := blk_lt d3
      clear q5 h2 s2 d2 hv3 s3 d3 HS1 HD1 hM1 HV1
      go_upto_region 11 with (fail)
      rw [← HV3.out]
      clear y0 g0 HV3
      go_wp2_with fail
      refine q6.mono ?_
      rintro x v4 ⟨rfl, h4, s4⟩
      have d4 := (s4.block M hM3 (by omega)).trans HD3.out
      have y1 : v4.cell? ⟨M, 1, none⟩ = some (.int .i64 0) := blk_cell d4 1
      have g1 := blk_frozen d4 1
      obtain ⟨v5, hv5⟩ : ∃ v5, v5 = v4.setCell ⟨M, 1, none⟩ (.int .i64 c.k) := ⟨_, rfl⟩
      have s5 : Tch (fun g => g = M) v4 v5 := by rw [hv5]; exact Tch.setCell (fun g => g = M) v4 ⟨M, 1, none⟩ _ rfl
      have d5 : v5.heap[M]? = some (.cells #[.string c.nm, .int .i64 c.k, .bool false] 54 (0, 0)) := by rw [hv5, blk_set d4]; rfl
      have q7 := dbyte_any b B2.2 v5 (h4.tch s5 (by omega))
      rw [← HBs.out.2, ← HC.out.2] at q7
      have HS5 : Hid (Tch (fun g => g = b ∨ M ≤ g) wr v5) := (HS3.out.trans s4 (fun g _ e => .inl e)).trans s5 (fun g _ e => .inr (by omega))
      have HD5 : Hid _ := d5
      have HV5 : Hid (v5 = _) := hv5
      have hM5 : M < v5.heap.size := blk_lt d5
      clear q6 h4 s4 d4 hv5 s5 d5 HS3 HD3 hM3
      go_upto_region 12 with (fail)
      rw [← HV5.out]
      clear y1 g1 HV5
      go_wp2_with fail
      refine q7.mono ?_
      rintro x v6 ⟨rfl, h6, s6⟩
      have d6 := (s6.block M hM5 (by omega)).trans HD5.out
      have y2 : v6.cell? ⟨M, 2, none⟩ = some (.bool false) := blk_cell d6 2
      have g2 := blk_frozen d6 2
      obtain ⟨v7, hv7⟩ : ∃ v7, v7 = v6.setCell ⟨M, 2, none⟩ (.bool c.nl) := ⟨_, rfl⟩
      have s7 : Tch (fun g => g = M) v6 v7 := by rw [hv7]; exact Tch.setCell (fun g => g = M) v6 ⟨M, 2, none⟩ _ rfl
      have d7 : v7.heap[M]? = some (.cells #[.string c.nm, .int .i64 c.k, .bool c.nl] 54 (0, 0)) := by rw [hv7, blk_set d6]; rfl
      have S7 : Tch (fun g => g = b ∨ M ≤ g) wr v7 := (HS5.out.trans s6 (fun g _ e => .inl e)).trans s7 (fun g _ e => .inr (by omega))
      rw [HM.out] at S7
      obtain ⟨vo', vc', v8, hr8, c83, f83, J8⟩ := J.out.add hbN hz0 c (h6.tch s7 (by omega)) S7 HST.out (by omega)
      have hzN : N + 2 ≤ wr.heap.size := by have := J.out.t.size; omega
      have m3 : v7.cell? ⟨N + 1, 3, none⟩ = some (.slice vo k vc) := (S7.cell (p := ⟨N + 1, 3, none⟩) (by show N + 1 < _; omega) (by show ¬ (N + 1 = b ∨ wr.heap.size ≤ N + 1); omega)).trans (blk_cell J.out.bx 3)
      have z0 : v7.cell? ⟨M, 0, none⟩ = some (.string c.nm) := blk_cell d7 0
      have z1 : v7.cell? ⟨M, 1, none⟩ = some (.int .i64 c.k) := blk_cell d7 1
      have z2 : v7.cell? ⟨M, 2, none⟩ = some (.bool c.nl) := blk_cell d7 2
      obtain ⟨v9, hv9⟩ : ∃ v9, v9 = v8.setCell ⟨N + 1, 3, none⟩ (.slice vo' (k + 1) vc') := ⟨_, rfl⟩
      rw [← hv9] at J8
      have HJ9 : Hid (TR w0 v9 b N n (k + 1) i1 i2 nm A5 p9 (l ++ [c]) vo' vc') := J8
      have HV7 : Hid (v7 = _) := hv7
      have HV9 : Hid (v9 = _) := hv9
      clear q7 h6 s6 d6 hv7 s7 d7 S7 hv9 J8 HS5 HD5 hM5 J HST HBs HC
      go_upto_region 13 with (fail)
      rw [← HV7.out]
      clear y2 g2 HV7 hcd
      go_upto_region 8 with (at_builtin; refine wpList_app9 _ rfl _ _ 22 rfl rfl _ _ rfl rfl hr8 ?_)
      rw [← HV9.out]
      clear m3 z0 z1 z2 c83 f83 hr8
      go_wp2_with fail
      go_roundg (n - (k + 1))
      case measure => omega
      case rel => exact ⟨k + 1, p9, l ++ [c], vo', vc', by first | rfl | (congr 1; omega), by omega, by omega, HJ9⟩
     | false =>
      have e5 : A5 = (l, p') := by rw [← J.out.eq]; exact dCols_stop (HEnd.out rfl)
      have q6 := dbyte_any b p' wr J.out.db
      have e6 : dByte p' = A6 := by rw [HA.out.2.2.2, e5]
      rw [e6] at q6
      have HE5 : Hid (A5 = (l, p')) := e5
      clear hd hend HEnd e5 e6 c1 Hbad
      go_wp2_with fail
      refine q6.mono ?_
      rintro x w8 ⟨rfl, h8, t8⟩
      have hzr := J.out.t.size
      have bx8 := (t8.block (N + 1) (by omega) (by omega)).trans J.out.bx
      have hT8 : Tch (fun g => g = b ∨ N + 1 ≤ g) w0 w8 := J.out.t.trans t8 (fun g _ e => .inl e)
      have hR8 := (hT8.block N (by omega) (by omega)).trans HBR.out
      have hO8 := own_tch J.out.own t8 (fun g hg e => by have := (J.out.own.lt g hg).1; omega)
      have m4 : w8.cell? ⟨N + 1, 4, none⟩ = some (.int .i64 0) := blk_cell bx8 4
      have f4 := blk_frozen bx8 4
      obtain ⟨w9, hw9⟩ : ∃ w9, w9 = w8.setCell ⟨N + 1, 4, none⟩ (.int .i64 A6.1) := ⟨_, rfl⟩
      have t9 : Tch (fun g => g = N + 1) w8 w9 := by rw [hw9]; exact Tch.setCell (fun g => g = N + 1) w8 ⟨N + 1, 4, none⟩ _ rfl
      have bx9 : w9.heap[N + 1]? = some (.cells #[.int .i64 i1, .int .i64 i2, .string nm, .slice vo k vc, .int .i64 A6.1] 24 (0, 0)) := by rw [hw9, blk_set bx8]; rfl
      have hR9 := (t9.block N (by have := t8.size; omega) (by omega)).trans hR8
      obtain ⟨o0, o1, o2, o3, o4⟩ := blk5 bx9
      obtain ⟨y0, y1, y2, y3, y4⟩ := blk5 hR9
      have g0 := blk_frozen hR9 0; have g1 := blk_frozen hR9 1; have g2 := blk_frozen hR9 2; have g3 := blk_frozen hR9 3; have g4 := blk_frozen hR9 4
      have HV : Hid (∀ W, Tch (fun i => i = N) w9 W → W.ownsRow N 54 3 (.slice vo k vc) l.length (ccl l) ∧ DB W b A6.2 ∧ Tch (fun i => i = b) w W) := fun W tW => by
        refine ⟨?_, (h8.tch t9 (by omega)).tch tW (by omega), ?_⟩
        · rw [J.out.len]
          exact own_low (own_tch (own_tch hO8 t9 (fun g hg h => by have := (hO8.lt g hg).1; omega)) tW (fun g hg h => by have := (hO8.lt g hg).1; omega)) (by omega)
        · refine (((HT0.out.mono (fun _ _ h => h.elim)).trans hT8 (fun i hi h => ?_)).trans t9 (fun i hi h => ?_)).trans tW (fun i hi h => ?_)
          · rcases h with h | h
            · exact h
            · have := HN.out; omega
          · have := HN.out; omega
          · have := HN.out; omega
      have HW9 : Hid (w9 = _) := hw9
      clear q6 bx8 hT8 hR8 hO8 t8 h8 J hzr hkx hkn hn hz0 hbN hw9 t9 bx9 hR9
      go_upto_region 15 with (fail)
      rw [← HW9.out]
      clear m4 f4 HW9
      obtain ⟨B, hB⟩ : ∃ B, B = N + 1 := ⟨_, rfl⟩
      rw [← hB] at o0 o1 o2 o3 o4 ⊢
      have hne : B ≠ N := by omega
      clear hB
      go_wp2_with fail
      rw [HE5.out]
      have hrs : Tryz.f42.results = #[.cell 2 24] := by kernel_rfl
      refine bodyPost_ret (v := tA i1 i2 nm (.slice vo k vc) A6.1) (by simp only [results, hrs]; go_simp) rfl ⟨⟨.slice vo k vc, rfl, (HV.out _ ?_).1⟩, (HV.out _ ?_).2⟩
      all_goals exact ((((Tch.setCell (fun i => i = N) w9 ⟨N, 0, none⟩ _ rfl).setCellR ⟨N, 1, none⟩ _ rfl).setCellR ⟨N, 2, none⟩ _ rfl).setCellR ⟨N, 3, none⟩ _ rfl).setCellR ⟨N, 4, none⟩ _ rfl
end Go.Proofs.YteaagnlhkopgdaaGreatDoor.C
