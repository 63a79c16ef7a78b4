import Derived.Test.YtkcmpipipelgoaaHNum
import Derived.Test.YtkcmpipipelgoaaHAt
/- List. -/
namespace Go.Proofs.Ytkcmpipipelgoaa
open Go.RowKit Go
set_option maxRecDepth 100000

theorem wpList_app {P : Program} (w : World) {ops : Array Oper} {rest : List Oper} {o : Oper} {a : Act} {Q : Exit → Act → World → Prop} (hgd : o.guard = none) (s x : Operand) (t : TypeId)
    (ho : o.op = .call { callee := .builtin .append, args := #[s, x], argTypes := #[t, t] }) (hty : o.type = t) (v u : Value) (hs : a.eval s = v) (hx : a.eval x = u) {v' : Value} {w' : World}
    (hr : (Builtin.append_ #[t, t] t #[v, u]).run P w = .ok v' w') (h : wpList P ops Q rest (a.put o.dst v') w') : wpList P ops Q (o :: rest) a w := by
  refine wpList_plain hgd fun K hK => ?_
  unfold Oper.wp execOp
  simp only [ho, hty, resolve, invoke, builtin, Sem.run_bind, Sem.run_pure, Result.andThen_ok, List.map_toArray, List.map_cons, List.map_nil, hs, hx, hr]
  exact hK _ _ h
theorem Tch.of_grown {S : Nat → Prop} {w w' : World} {row : Option Nat} (h : w.grownBy w' row) (hS : ∀ g, row = some g → S g) : Tch S w w' :=
  ⟨h.os, h.tape, h.output, h.size, fun k hk hn => h.block k hk (fun e => hn (hS k e.symm))⟩
theorem tcl_snoc (P : List (Tbl × Value)) (p : Tbl × Value) : tcl (P ++ [p]) = tcl P ++ tcs p := by rw [tcl_append]; simp [tcl]
theorem tcs_one (t : Tbl) (vo : Option Addr) (n vc : Nat) : ∀ u ∈ tcs (t, .slice vo n vc), u.oneCell' = true := fun u hu => by
  simp only [tcs, List.mem_cons, List.not_mem_nil, or_false] at hu
  rcases hu with rfl | rfl | rfl | rfl | rfl <;> rfl
theorem TO.snoc {W W' : World} {base : Nat} {tv tv' : Value} {P : List (Tbl × Value)} {p : Tbl × Value} (h : TO W base tv P) (hv : W.ownsRow base 80 3 p.2 p.1.cols.length (ccl p.1.cols))
    (hf : ∀ g, p.2.ownBlock = some g → tv.ownBlock ≠ some g ∧ ∀ i (hi : i < P.length), P[i].2.ownBlock ≠ some g) (ho : W'.ownsRow base 36 5 tv' (P.length + 1) (tcl P ++ tcs p)) (t : Tch (fun g => tv.ownBlock = some g) W W')
    (hat : tv'.ownBlock = tv.ownBlock ∨ tv'.ownBlock = some W.heap.size) : TO W' base tv' (P ++ [p]) := by
  have hl : (P ++ [p]).length = P.length + 1 := by simp
  have hlast : ∀ i (hi : i < (P ++ [p]).length), (∃ hi' : i < P.length, (P ++ [p])[i] = P[i]) ∨ (i = P.length ∧ (P ++ [p])[i] = p) := fun i hi => by
    rcases Nat.lt_or_ge i P.length with h1 | h1
    · exact .inl ⟨h1, List.getElem_append_left h1⟩
    · have e : i = P.length := by rw [hl] at hi; omega
      subst e
      exact .inr ⟨rfl, by simp⟩
  refine ⟨by rw [hl, tcl_snoc]; exact ho, fun i hi => ?_, fun i hi g e => ?_, fun i j hi hj g hij e => ?_⟩
  · rcases hlast i hi with ⟨h1, e1⟩ | ⟨_, e1⟩
    · rw [e1]; exact own_tch (h.col i h1) t (fun g e => h.sep i h1 g e)
    · rw [e1]; exact own_tch hv t (fun g e => (hf g e).1)
  · rcases hlast i hi with ⟨h1, e1⟩ | ⟨_, e1⟩
    · rw [e1] at e
      rcases hat with ha | ha
      · rw [ha]; exact h.sep i h1 g e
      · rw [ha]
        intro e2
        have := ((h.col i h1).lt g e).2
        injection e2 with e2
        omega
    · rw [e1] at e
      rcases hat with ha | ha
      · rw [ha]; exact (hf g e).1
      · rw [ha]
        intro e2
        have := (hv.lt g e).2
        injection e2 with e2
        omega
  · rcases hlast i hi with ⟨h1, e1⟩ | ⟨h1, e1⟩ <;> rcases hlast j hj with ⟨h2, e2⟩ | ⟨h2, e2⟩
    · rw [e1] at e; rw [e2]; exact h.dis i j h1 h2 g hij e
    · rw [e1] at e; rw [e2]; intro e3; exact (hf g e3).2 i h1 e
    · rw [e1] at e; rw [e2]; exact (hf g e).2 j h2
    · exact absurd (h1.trans h2.symm) hij
def tells (h : Hs) (x : Int) (S : List Int) : List Tbl := (S.filter (fun i => (wasL (h.K i) x).th)).map (fun i => (wasL (h.K i) x).t)
/-- What List gives. -/
def ListOut (h : Hs) (x : Int) (N : Nat) (r : Ending) (w' : World) : Prop :=
  (x < h.b ∧ r = .returned (.tuple #[.slice none 0 0, .int .i64 170])) ∨ (h.b ≤ x ∧ ∃ ids tv P, IdsOf h.K ids ∧ r = .returned (.tuple #[tv, .int .i64 0]) ∧ P.map Prod.fst = tells h x ids ∧ TO w' N tv P)

set_option maxHeartbeats 2000000 in
theorem list_f {w : World} {F : Nat → Prop} {b : Nat} {h : Hs} (H : HF w F b h) (x : Int) (hT : h.T < 1099511627776) :
    Calls Try.prog 14 #[.pointer (some ⟨b, 0, none⟩), .int .i64 x] w fun r w' => ListOut h x w.heap.size r w' ∧ Tch (fun _ => False) w w' := by
  obtain ⟨mb, sb, ns, H⟩ := H
  obtain ⟨c0, -, -, -⟩ := H.c
  have q1 := numbers_w H (by omega)
  have HH : Hid (HW w F b mb sb ns h) := H
  have HT' : Hid (h.T < 1099511627776) := hT
  clear H hT
  go_enter Try.func14, Try.ntmps14
  by_cases hlt : x < h.b
  · go_wp2_with fail
    go_ret2
    exact ⟨.inl ⟨hlt, rfl⟩, Tch.refl _ _⟩
  · go_wp2_with fail
    refine q1.mono ?_
    rintro e w2 ⟨v, ids, rfl, hids, hlen, hv, t2⟩
    obtain ⟨vo, vc, rfl⟩ := row_slice hv
    obtain ⟨L, hL⟩ : ∃ L, L = ids.length := ⟨_, rfl⟩
    have hlen' : L ≤ h.T := by rw [hL]; exact hlen
    rw [← hL] at hv ⊢
    have HL : Hid (L = ids.length) := hL
    have HI : Hid (IdsOf h.K ids) := hids
    have hLT : L < 1099511627776 := by have := HT'.out; omega
    have HV : Hid (w2.ownsRow w.heap.size 3 1 (.slice vo L vc) L (ids.map encZ)) := hv
    have HT2 : Hid (Tch (fun _ => False) w w2) := t2
    have HH2 : Hid (HW w2 F b mb sb ns h) := HH.out.tch t2 (fun _ _ e => e.elim)
    have hL9 : L ≤ 9223372036854775807 := by omega
    have HJ0 : Hid (TO w2 w2.heap.size (.slice none 0 0) [] ∧ ([] : List (Tbl × Value)).map Prod.fst = tells h x (ids.take 0) ∧ Tch (fun _ => False) w2 w2) := ⟨⟨⟨rfl, .inl ⟨rfl, rfl⟩⟩, fun i hi => by simp at hi, fun i hi => by simp at hi, fun i j hi => by simp at hi⟩, rfl, Tch.refl _ _⟩
    clear q1 hids hlen hv t2 hL c0
    go_wp2_with fail
    go_loopg [6, 8, 9, 19] L (fun kx s6 s8 s9 s19 wr => ∃ (k m : Nat) (lo : Option Addr) (lc : Nat) (P : List (Tbl × Value)), s6 = .slice lo m lc ∧ s19 = .int .i64 k ∧ L - k ≤ kx ∧ k ≤ L ∧ m ≤ k ∧ Hid (m = P.length) ∧ Hid (TO wr w2.heap.size (.slice lo m lc) P ∧ P.map Prod.fst = tells h x (ids.take k) ∧ Tch (fun _ => False) w2 wr))
    case atStart => exact ⟨0, 0, none, 0, [], rfl, rfl, by omega, by omega, by omega, rfl, HJ0⟩
    case round =>
      rename World => wr
      obtain ⟨k, m, lo, lc, P, rfl, rfl, hkx, hkl, hmk, Hm, J⟩ := hrel
      by_cases hk : k < L
      · have hk' : (k : Int) < (L : Int) := by omega
        obtain ⟨i, hi⟩ : ∃ i, ids[k]? = some i := ⟨_, List.getElem?_eq_getElem (by have := HL.out; omega)⟩
        obtain ⟨g, hg, hgl, hat⟩ := own_at HV.out (by omega)
        subst hg
        have x0 : wr.cell? ⟨g, k, none⟩ = some (.int .i64 i) := by
          have : w2.cell? ⟨g, 0 + k, none⟩ = some (.int .i64 i) := hat k _ (by rw [List.getElem?_map, hi]; rfl)
          rw [Nat.zero_add] at this
          exact (J.out.2.2.cell (p := ⟨g, k, none⟩) (cell_lt this) (fun e => e)).trans this
        have hmem : i ∈ ids := List.mem_of_getElem? hi
        have HJr := HH2.out.tch J.out.2.2 (fun _ _ e => e.elim)
        have q2 := was_w HJr x i (HH.out.id i ((HI.out.2 i).1 hmem)) (by have := HT'.out; omega)
        have HTl : Hid (tells h x (ids.take (k + 1)) = tells h x (ids.take k) ++ (if (wasL (h.K i) x).th = true then [(wasL (h.K i) x).t] else [])) := by
          show _ = _
          unfold tells
          rw [List.take_add_one, hi, List.filter_append, List.map_append]
          congr 1
          cases hth : (wasL (h.K i) x).th <;> simp [hth]
        have HIn : Hid ((wasL (h.K i) x).th = true → NtIn wr (own3 F b mb sb) (wasL (h.K i) x)) := fun e => HJr.nt i _ (wasL_th e).2
        obtain ⟨n, hn⟩ : ∃ n, n = wasL (h.K i) x := ⟨_, rfl⟩
        rw [← hn] at q2 HTl HIn
        obtain ⟨nt, hnt⟩ : ∃ nt, nt = n.th := ⟨_, rfl⟩
        unfold Nt.v at q2
        rw [← hnt] at q2 HTl HIn
        clear hat hgl hi hmem HJr hn hnt
        go_wp2_with fail
        refine q2.mono ?_
        rintro e w3 ⟨rfl, t3⟩
        clear q2 x0
        obtain ⟨M, hM⟩ : ∃ M, M = w3.heap.size := ⟨_, rfl⟩
        obtain ⟨w4, hw4⟩ : ∃ w4, w4 = w3.alloc (.cells #[.int .i64 n.l, .bool nt, .int .i64 n.t.id, .int .i64 n.t.ver, .string n.t.nm, .slice n.ao n.t.cols.length n.c, .int .i64 n.t.key] 77) := ⟨_, rfl⟩
        have t4 : Tch (fun _ => False) w3 w4 := by rw [hw4]; exact Tch.alloc _ _ _
        have bM : w4.heap[M]? = some (.cells #[.int .i64 n.l, .bool nt, .int .i64 n.t.id, .int .i64 n.t.ver, .string n.t.nm, .slice n.ao n.t.cols.length n.c, .int .i64 n.t.key] 77 (0, 0)) := by rw [hw4, hM]; exact alloc_new _ _
        have HT4 : Hid (Tch (fun _ => False) wr w4) := t3.trans' t4
        have HW4 : Hid (w4 = _) := hw4
        have HM : Hid (M = w3.heap.size) := hM
        have HBM : Hid _ := bM
        have m1 : w4.cell? ⟨M, 1, none⟩ = some (.bool nt) := blk_cell bM 1
        clear hw4 hM t3 t4
        go_upto_region 8 with (fail)
        rw [← HW4.out, ← HM.out]
        cases nt with
        | false =>
          have HJ4 : Hid (TO w4 w2.heap.size (.slice lo m lc) P ∧ P.map Prod.fst = tells h x (ids.take (k + 1)) ∧ Tch (fun _ => False) w2 w4) := ⟨J.out.1.tch HT4.out (fun _ _ _ e => e), by rw [HTl.out, J.out.2.1]; simp, J.out.2.2.trans' HT4.out⟩
          clear bM
          go_wp2_with fail
          go_roundg (L - (k + 1))
          case measure => omega
          case rel => exact ⟨k + 1, m, lo, lc, P, rfl, rfl, by omega, by omega, by omega, Hm, HJ4⟩
        | true =>
          have hin := (HIn.out rfl).tch HT4.out (fun _ _ e => e.elim)
          have q3 := copied_any n.t n.ao n.c w4 hin.sl hin.no (by have := hin.le; omega)
          have m2 : w4.cell? ⟨M, 2, none⟩ = some (.int .i64 n.t.id) := blk_cell bM 2
          have m3 : w4.cell? ⟨M, 3, none⟩ = some (.int .i64 n.t.ver) := blk_cell bM 3
          have m4 : w4.cell? ⟨M, 4, none⟩ = some (.string n.t.nm) := blk_cell bM 4
          have m5 : w4.cell? ⟨M, 5, none⟩ = some (.slice n.ao n.t.cols.length n.c) := blk_cell bM 5
          have m6 : w4.cell? ⟨M, 6, none⟩ = some (.int .i64 n.t.key) := blk_cell bM 6
          clear bM hin
          go_wp2_with fail
          refine q3.mono ?_
          rintro e w5 ⟨⟨v, rfl, hv⟩, t5⟩
          obtain ⟨vo5, vc5, rfl⟩ := row_slice hv
          clear q3 m1 m2 m3 m4 m5 m6
          obtain ⟨i0, hi0, hz0, hz1, hz2⟩ := info_parts info_tbl
          obtain ⟨w6, hw6⟩ : ∃ w6, w6 = w5.alloc (.cells #[.int .i64 n.t.id, .int .i64 n.t.ver, .string n.t.nm, .slice vo5 n.t.cols.length vc5, .int .i64 n.t.key] 36) := ⟨_, rfl⟩
          have t6 : Tch (fun _ => False) w5 w6 := by rw [hw6]; exact Tch.alloc _ _ _
          have b6 : w6.heap[w5.heap.size]? = some (.cells (tcs (n.t, .slice vo5 n.t.cols.length vc5)).toArray 36 (0, 0)) := by rw [hw6]; exact alloc_new _ _
          have hTO6 := J.out.1.tch ((HT4.out.trans' t5).trans' t6) (fun _ _ _ e => e)
          have hsz2 : w2.heap.size ≤ w4.heap.size := (J.out.2.2.trans' HT4.out).size
          have hv6 : w6.ownsRow w4.heap.size 80 3 (.slice vo5 n.t.cols.length vc5) n.t.cols.length (ccl n.t.cols) := own_tch hv t6 (fun _ _ e => e)
          have ho6 : w6.ownsRow w2.heap.size 36 5 (.slice lo m lc) m (tcl P) := by have := hTO6.own; rw [← Hm.out] at this; exact this
          obtain ⟨v7, w7, hr7, hown7, hgr7, _, hat7⟩ := run_append_own_at (P := Try.prog) w6 w2.heap.size 41 41 36 i0 _ 5 64 Try.underlying41 hi0 hz0 hz1 hz2 rfl (by decide) _ _ _ ho6 ⟨w5.heap.size, 0, none⟩ 1 1 (tcs (n.t, .slice vo5 n.t.cols.length vc5)) rfl (fun j u hu => by rw [add_plain, Nat.zero_add, blk_cell b6, List.getElem?_toArray]; exact hu) (tcs_one _ _ _ _) (by unfold maxLen; omega) (by omega) (by have := t5.size; have := t6.size; omega)
          obtain ⟨o7, c7, rfl⟩ := row_slice hown7
          have t7 : Tch (fun g => (Value.slice lo m lc).ownBlock = some g) w6 w7 := Tch.of_grown hgr7 (fun g e => e)
          have hTO7 : TO w7 w2.heap.size (.slice o7 (m + 1) c7) (P ++ [(n.t, .slice vo5 n.t.cols.length vc5)]) := by
            refine hTO6.snoc (p := (n.t, .slice vo5 n.t.cols.length vc5)) (own_low hv6 hsz2) (fun g e => ?_) (by rw [← Hm.out]; exact hown7) t7 hat7
            have h1 := row_ge hv e
            have h4s := HT4.out.size
            refine ⟨fun e2 => ?_, fun j hj e2 => ?_⟩
            · have := (J.out.1.own.lt g e2).2; omega
            · have := ((J.out.1.col j hj).lt g e2).2; omega
          have HJ7 : Hid (TO w7 w2.heap.size (.slice o7 (m + 1) c7) (P ++ [(n.t, .slice vo5 n.t.cols.length vc5)]) ∧ (P ++ [(n.t, Value.slice vo5 n.t.cols.length vc5)]).map Prod.fst = tells h x (ids.take (k + 1)) ∧ Tch (fun _ => False) w2 w7) := ⟨hTO7, by rw [HTl.out, List.map_append, J.out.2.1]; simp, (((J.out.2.2.trans' HT4.out).trans' t5).trans' t6).trans t7 (fun g hg e => by have := (ho6.lt g e).1; omega)⟩
          have Hm7 : Hid (m + 1 = (P ++ [(n.t, Value.slice vo5 n.t.cols.length vc5)]).length) := by have := Hm.out; show _ = _; rw [List.length_append, List.length_singleton]; omega
          rw [hw6] at hr7
          clear hi0 hz0 hz1 hz2 hw6 t6 b6 hTO6 hsz2 hv6 ho6 hown7 hgr7 hat7 t7 hTO7 hv t5
          go_wp2_with (at_builtin; refine wpList_app _ rfl _ _ 41 rfl rfl _ _ rfl rfl hr7 ?_)
          go_roundg (L - (k + 1))
          case measure => omega
          case rel => exact ⟨k + 1, m + 1, o7, c7, _, rfl, rfl, by omega, by omega, by omega, Hm7, HJ7⟩
      · have hk' : ¬ (k : Int) < (L : Int) := by omega
        go_wp2_with fail
        go_ret2
        have e9 : ids.take k = ids := List.take_of_length_le (by have := HL.out; omega)
        obtain ⟨j1, j2, j3⟩ := J.out
        rw [e9] at j2
        have hsz := HT2.out.size
        exact ⟨.inr ⟨by omega, ids, _, P, HI.out, rfl, j2, ⟨own_low j1.own hsz, fun i hi => own_low (j1.col i hi) hsz, j1.sep, j1.dis⟩⟩, HT2.out.trans' j3⟩
end Go.Proofs.Ytkcmpipipelgoaa
