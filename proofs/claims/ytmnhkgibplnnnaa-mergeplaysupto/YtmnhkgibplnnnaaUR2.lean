import Derived.Test.YtmnhkgibplnnnaaUR1
/- The document's Lists. -/
namespace Go.Proofs.Ytmnhkgibplnnnaa
open Go.RowKit Go

theorem tot_mem {α : Type} {ls : List (List α)} {r : List α} (h : r ∈ ls) : r.length ≤ tot ls := by
  induction ls with
  | nil => cases h
  | cons a ls ih =>
    rcases List.mem_cons.1 h with rfl | h
    · simp [tot]
    · have := ih h; simp [tot] at *; omega
theorem rsOf_zero (ls : List (List Rc)) : rsOf ls (List.replicate ls.length 0) = ls := by
  induction ls with
  | nil => rfl
  | cons a ls ih =>
    show List.zipWith _ (a :: ls) (List.replicate (ls.length + 1) 0) = _
    rw [List.replicate_succ, List.zipWith_cons_cons]
    show a.drop 0 :: rsOf ls _ = _
    rw [ih]; rfl
/-- A row of changes of one's own is turned. -/
theorem RM.own {D : Rc → List Value × List Value} {M base n : Nat} {w w' : World} {rb : Nat} {vL vA v : Value} {hd xs : List Value} {ls : List (List Rc)} {nx : List Nat} (h : RM D M base w rb vL vA hd ls nx) (ho : w.ownsRow M 27 6 v n xs) (t : Tch (fun i => v.ownBlock = some i) w w') : RM D M base w' rb vL vA hd ls nx := by
  rcases ho.2 with ⟨e, _⟩ | ⟨z, c, cur, e, hN, hz, _⟩
  · exact h.no (t.mono (fun i _ e2 => by rw [e] at e2; cases e2))
  · exact h.z hz hN (t.mono (fun i _ e2 => by rw [e] at e2; simpa [Value.ownBlock] using e2.symm))
/-- The state of the second loop. -/
structure L3 (D : Rc → List Value × List Value) (N : Nat) (w0 wr : World) (rb : Nat) (ls : List (List Rc)) (ao : Option Addr) (n6 c6 z : Nat) (d : Bool) (c : Rc) (nx : List Nat) (out : List Rc) : Prop where
  rm : ∃ vL vA hd, RM D N N wr rb vL vA hd ls nx
  own : wr.ownsRow N 27 6 (.slice ao n6 c6) out.length (kcl out)
  ln : n6 = out.length
  blk : wr.heap[z]? = some (.cells (kc6 c).toArray 27 (0, 0))
  nz : N ≤ z
  az : (Value.slice ao n6 c6).ownBlock ≠ some z
  yes : d = true → ∀ rest, Mrg Rc.l (rsOf ls nx) rest → Mrg Rc.l ls (out ++ c :: rest)
  no : d = false → Mrg Rc.l ls out
  tot : out.length + tot (rsOf ls nx) + (if d then 1 else 0) = tot ls
  tch : Tch (fun i => N ≤ i) w0 wr
set_option maxHeartbeats 8000000 in
set_option maxRecDepth 2000000 in
theorem rlists_any (D : Rc → List Value × List Value) (w : World) (lo : Option Addr) (lc : Nat) (hd : List Value) (ls : List (List Rc)) (h : LLs D w.heap.size w lo hd ls) (hlc : ls.length ≤ lc) (hs : ls.length ≤ 2000000) (ht : tot ls ≤ 2000000) :
    Calls Try.prog 20 #[.slice lo ls.length lc] w fun e w' => ∃ v out, e = .returned v ∧ Mrg Rc.l ls out ∧ w'.ownsRow w.heap.size 27 6 v out.length (kcl out) ∧ Tch (fun _ => False) w w' := by
  obtain ⟨N, hN⟩ : ∃ N, N = w.heap.size := ⟨_, rfl⟩
  rw [← hN] at h
  obtain ⟨n, hn⟩ : ∃ n, n = ls.length := ⟨_, rfl⟩
  have Hn : Hid (n = ls.length) := hn
  have HL : Hid (LLs D N w lo hd ls) := h
  have HT : Hid (tot ls ≤ 2000000) := ht
  have HN : Hid (N = w.heap.size) := hN
  rw [← hn] at hs hlc ⊢
  have hwN : N ≤ w.heap.size := by omega
  obtain ⟨w1, hw1⟩ : ∃ w1, w1 = w.alloc (.cells #[.slice none 0 0, .slice none 0 0] 38) := ⟨_, rfl⟩
  have t1 : Tch (fun _ => False) w w1 := by rw [hw1]; exact Tch.alloc _ _ _
  have H1 : Hid ((∃ vL vA hd, RM D N N w1 N vL vA hd (ls.take 0) (List.replicate 0 0)) ∧ Tch (fun i => N ≤ i) w w1) := by
    refine ⟨⟨.slice none 0 0, .slice none 0 0, [], by rw [hw1, hN]; exact alloc_new _ _, by rw [List.take_zero]; exact World.ownsRow_nil _ _ _ _, by rw [List.take_zero]; exact World.ownsRow_nil _ _ _ _, fun j l e => by simp at e, by simp, fun j l k e => by simp at e, Nat.le_refl _⟩, t1.mono (fun _ _ h => h.elim)⟩
  have HW1 : Hid (w1 = _) := hw1
  clear h ht hn hw1 t1
  go_enter Try.func20, Try.ntmps20
  go_upto_region 2 with (fail)
  rw [← HW1.out]
  rw [← hN]
  clear hN
  go_wp2_with fail
  go_loopg [4] n (fun kx s4 wr => ∃ i : Nat, s4 = .int .i64 i ∧ n - i ≤ kx ∧ i ≤ n ∧ Hid ((∃ vL vA hd, RM D N N wr N vL vA hd (ls.take i) (List.replicate i 0)) ∧ Tch (fun i => N ≤ i) w wr))
  case atStart => exact ⟨0, rfl, by omega, by omega, H1⟩
  case round =>
    obtain ⟨i, rfl, hk, hin, I⟩ := hrel
    by_cases hi : i < n
    · have hi' : (i : Int) < (n : Int) := by omega
      have hil : i < ls.length := by rw [← Hn.out]; exact hi
      obtain ⟨gl, ol, ao, cp, rfl, cl, hrl⟩ := (HL.out.tch I.out.2).get (i := i) hil
      obtain ⟨m, hm⟩ : ∃ m, m = (ls[i]'hil).length := ⟨_, rfl⟩
      rw [← hm] at cl
      have q3 : Calls Try.prog 12 #[.pointer (some ⟨N, 0, none⟩), .slice ao m cp] wr fun e w' => e = .returned (.tuple #[]) ∧ Hid ((∃ vL vA hd, RM D N N w' N vL vA hd (ls.take (i + 1)) (List.replicate (i + 1) 0)) ∧ Tch (fun i => N ≤ i) w w') := by
        obtain ⟨⟨vL, vA, hd', hrm⟩, tw⟩ := I.out
        rw [hm]
        refine (radd_any D N N wr N vL vA hd' (ls.take i) (List.replicate i 0) hrm (ls[i]'hil) ao cp hrl (Nat.le_refl _) (Nat.le_trans hwN tw.size) (by rw [List.length_take]; omega)).mono ?_
        rintro e w' ⟨rfl, ⟨vL', vA', hd'', h'⟩, t'⟩
        rw [← List.take_succ_eq_append_getElem hil, ← List.replicate_succ'] at h'
        exact ⟨rfl, ⟨vL', vA', hd'', h'⟩, tw.trans' t'⟩
      clear hrl hm
      go_wp2_with fail
      refine q3.mono ?_
      rintro e w3 ⟨rfl, H3⟩
      clear q3 cl
      go_wp2
      go_roundg (n - (i + 1))
      case measure => omega
      case rel => exact ⟨i + 1, rfl, by omega, by omega, H3⟩
    · have hi' : ¬ (i : Int) < (n : Int) := by omega
      obtain rfl : i = n := by omega
      have hls : ∀ l ∈ ls, l.length ≤ 1000000000000 := fun l hl => by have := tot_mem hl; have := HT.out; omega
      have HLS : Hid _ := hls
      have q2 : Calls Try.prog 14 #[.pointer (some ⟨N, 0, none⟩)] wr fun e w' => ∃ (d : Bool) (c : Rc), e = .returned (.tuple #[.agg #[.int .i64 c.l, .int .i64 c.x, .int .i64 c.k, .int .i64 c.t, .slice c.oa c.ol c.oc, .slice c.na c.nl c.nc], .bool d]) ∧ ∀ w2, w2 = w'.alloc (.cells #[.int .i64 c.l, .int .i64 c.x, .int .i64 c.k, .int .i64 c.t, .slice c.oa c.ol c.oc, .slice c.na c.nl c.nc] 27) → ∃ nx, L3 D N w w2 N ls none 0 0 w'.heap.size d c nx [] := by
        obtain ⟨⟨vL, vA, hd', hrm⟩, tw⟩ := I.out
        have e1 : ls.take i = ls := by rw [Hn.out]; exact List.take_length
        rw [e1] at hrm
        have hNr : N ≤ wr.heap.size := Nat.le_trans hwN tw.size
        refine (rnext_any D N N wr N vL vA hd' ls (List.replicate i 0) hrm hNr (Nat.le_refl _) (by rw [← Hn.out]; omega) hls).mono ?_
        rintro e w' ⟨d, c, nx', rfl, hy, hno, hrm', t'⟩
        refine ⟨d, c, rfl, fun w2 hw2 => ⟨nx', ?_⟩⟩
        have t2 : Tch (fun _ => False) w' w2 := by rw [hw2]; exact Tch.alloc _ _ _
        have e2 : rsOf ls (List.replicate i 0) = ls := by rw [Hn.out]; exact rsOf_zero ls
        rw [e2] at hy hno
        refine ⟨⟨vL, vA, hd', hrm'.no t2⟩, ⟨rfl, .inl ⟨rfl, rfl⟩⟩, rfl, by rw [hw2]; exact alloc_new _ _, Nat.le_trans hNr t'.size, by simp [Value.ownBlock], ?_, ?_, ?_, (tw.trans t' (fun j hj e => (hrm.oA.lt j e).1)).trans t2 (fun _ _ h => h.elim)⟩
        · intro hd rest hr
          obtain ⟨j, u, hpk, e3⟩ := hy hd
          rw [e3] at hr
          exact Mrg.cons hpk hr
        · intro hd
          exact Mrg.nil (hno hd).2.2
        · cases d with
          | true => obtain ⟨j, u, hpk, e3⟩ := hy rfl; rw [e3, tot_set hpk.1]; simp
          | false => rw [(hno rfl).1, e2]; simp
      clear hls
      go_wp2_with fail
      refine q2.mono ?_
      rintro e w2 ⟨d, c, rfl, h2⟩
      obtain ⟨nx, h2⟩ := h2 _ rfl
      have H2 : Hid _ := h2
      clear q2 h2
      go_wp2_with fail
      go_loopg [5, 7] 2000001 (fun kx s5 s7 wx => ∃ (ao : Option Addr) (n6 c6 : Nat) (d : Bool) (c : Rc) (nx : List Nat) (out : List Rc), s5 = .slice ao n6 c6 ∧ s7 = .bool d ∧ tot (rsOf ls nx) + (if d then 1 else 0) ≤ kx ∧ Hid (L3 D N w wx N ls ao n6 c6 w2.heap.size d c nx out))
      case atStart => exact ⟨none, 0, 0, d, c, nx, [], rfl, rfl, (by have := H2.out.tot; have := HT.out; simp at *; omega), H2⟩
      case round =>
        rename World => wx
        obtain ⟨ao, n6, c6, d, c, nx, out, rfl, rfl, hk2, J⟩ := hrel
        cases d with
        | false =>
          go_wp2
          go_ret
          refine ⟨_, out, rfl, J.out.no rfl, ?_, ?_⟩
          · rw [← HN.out]; exact J.out.own
          · exact J.out.tch.mono (fun i hi e => by have := HN.out; omega)
        | true =>
          obtain ⟨i0, hi0, hz0, hz1, hz2⟩ := info_parts info_ch
          obtain ⟨vL, vA, hd', hrm⟩ := J.out.rm
          have htot := J.out.tot
          have htm := HT.out
          simp only [if_true] at htot hk2
          have hNx : N ≤ wx.heap.size := Nat.le_trans hwN J.out.tch.size
          obtain ⟨wy, hwy⟩ : ∃ wy, wy = wx.alloc (.cells #[.int .i64 c.l, .int .i64 c.x, .int .i64 c.k, .int .i64 c.t, .slice c.oa c.ol c.oc, .slice c.na c.nl c.nc] 27) := ⟨_, rfl⟩
          have ty : Tch (fun _ => False) wx wy := by rw [hwy]; exact Tch.alloc _ _ _
          have by' : wy.heap[wx.heap.size]? = some (.cells (kc6 c).toArray 27 (0, 0)) := by rw [hwy]; exact alloc_new _ _
          have howny := own_tch J.out.own ty (fun _ _ h => h)
          obtain ⟨v1, w3, hr1, hown1, hgr1, _, hat1⟩ := run_append_own_at (P := Try.prog) wy N 28 28 27 i0 _ 6 80 Try.underlying28 hi0 hz0 hz1 hz2 rfl (by decide) _ _ _ howny ⟨wx.heap.size, 0, none⟩ 1 1 (kc6 c) rfl (fun j u hu => by rw [add_plain, Nat.zero_add, blk_cell by', List.getElem?_toArray]; exact hu)
            (fun u hu => by simp only [kc6, List.mem_cons, List.not_mem_nil, or_false] at hu; rcases hu with rfl | rfl | rfl | rfl | rfl | rfl <;> rfl) (by unfold maxLen; omega) (by omega) (Nat.le_trans hNx ty.size)
          have t3 : Tch (fun i => (Value.slice ao n6 c6).ownBlock = some i) wy w3 := Tch.of_grown hgr1 (fun g e => e)
          have hrm3 : RM D N N w3 N vL vA hd' ls nx := (hrm.no ty).own howny t3
          obtain ⟨o1, c1, rfl⟩ := row_slice hown1
          have hzx := J.out.blk
          have hzy := (ty.block _ (blk_lt hzx) (fun h => h)).trans hzx
          have hz3 := (t3.block _ (blk_lt hzy) J.out.az).trans hzy
          obtain ⟨e0, e1, e2, e3, e4, e5⟩ := get6 hzx
          have hnb : (Value.slice o1 (out.length + 1) c1).ownBlock ≠ some w2.heap.size := fun e => by
            rcases hat1 with h1 | h1
            · rw [e] at h1; exact J.out.az h1.symm
            · rw [e] at h1
              have h2 : w2.heap.size = wy.heap.size := by simpa using h1
              have := blk_lt hzy
              omega
          have hln : out.length = n6 := J.out.ln.symm
          have tx3 : Tch (fun i => N ≤ i) wx w3 := (ty.mono (fun _ _ h => h.elim)).trans t3 (fun i hi e => (howny.lt i e).1)
          have hnz := J.out.nz
          have q3 : Calls Try.prog 14 #[.pointer (some ⟨N, 0, none⟩)] w3 fun e w' => ∃ (d' : Bool) (c' : Rc), e = .returned (.tuple #[.agg #[.int .i64 c'.l, .int .i64 c'.x, .int .i64 c'.k, .int .i64 c'.t, .slice c'.oa c'.ol c'.oc, .slice c'.na c'.nl c'.nc], .bool d']) ∧ w'.heap[w2.heap.size]? = some (.cells #[.int .i64 c.l, .int .i64 c.x, .int .i64 c.k, .int .i64 c.t, .slice c.oa c.ol c.oc, .slice c.na c.nl c.nc] 27 (0, 0)) ∧ ∀ w4, w4.heap[w2.heap.size]? = some (.cells (kc6 c').toArray 27 (0, 0)) → Tch (fun i => i = w2.heap.size) w' w4 → ∃ nx', tot (rsOf ls nx') + (if d' then 1 else 0) ≤ tot (rsOf ls nx) ∧ L3 D N w w4 N ls o1 (n6 + 1) c1 w2.heap.size d' c' nx' (out ++ [c]) := by
            refine (rnext_any D N N w3 N vL vA hd' ls nx hrm3 (Nat.le_trans hNx tx3.size) (Nat.le_refl _) (by rw [← Hn.out]; omega) HLS.out).mono ?_
            rintro e w' ⟨d', c', nx', rfl, hy, hno, hrm', t'⟩
            have k27 : ∀ (z : Nat) (cs : Array Value), w3.heap[z]? = some (.cells cs 27 (0, 0)) → ¬ vA.ownBlock = some z := fun z cs hz e => by
              obtain ⟨cur, hc⟩ := own_ty hrm3.oA e
              exact ne_ty hz hc (by decide) rfl
            have b3 := (t'.block _ (blk_lt hz3) (k27 _ _ hz3)).trans hz3
            have ho' := own_tch hown1 t' (fun g e e6 => by
              obtain ⟨cur, hc⟩ := own_ty hown1 e
              exact k27 g cur hc e6)
            refine ⟨d', c', rfl, b3, fun w4 b4 t4 => ⟨nx', ?_, ⟨vL, vA, hd', hrm'.z b3 hnz t4⟩, ?_, ?_, b4, hnz, by rw [← hln]; exact hnb, ?_, ?_, ?_, ?_⟩⟩
            · cases d' with
              | true => obtain ⟨j, u, hpk, e6⟩ := hy rfl; rw [e6, tot_set hpk.1]; simp
              | false => rw [(hno rfl).1]; simp
            · have := own_tch ho' t4 (fun g e e6 => hnb (by rw [e, e6]))
              rw [hln] at this
              rw [kcl_snoc, List.length_append, List.length_singleton, hln]; exact this
            · rw [List.length_append, List.length_singleton, hln]
            · intro hd rest hr
              obtain ⟨j, u, hpk, e6⟩ := hy hd
              rw [e6] at hr
              have := J.out.yes rfl (c' :: rest) (Mrg.cons hpk hr)
              rw [List.append_assoc]; exact this
            · intro hd
              exact J.out.yes rfl [] (Mrg.nil (hno hd).2.2)
            · rw [List.length_append, List.length_singleton]
              cases d' with
              | true => obtain ⟨j, u, hpk, e6⟩ := hy rfl; have := tot_set hpk.1; rw [e6]; simp only [if_true]; omega
              | false => rw [(hno rfl).1]; simp only [Bool.false_eq_true, if_false]; omega
            · exact ((J.out.tch.trans' tx3).trans t' (fun i hi e => (hrm3.oA.lt i e).1)).trans t4 (fun i hi e => by omega)
          rw [hln, hwy] at hr1
          clear hrm hrm3 hNx hwy ty by' howny hown1 hgr1 hat1 t3 hzx hzy hz3 hnb hln tx3 hnz htot htm hi0 hz0 hz1 hz2
          go_upto_region 10 with (at_builtin; refine wpList_app _ rfl _ _ 28 rfl rfl _ _ rfl rfl hr1 ?_)
          clear e0 e1 e2 e3 e4 e5 hr1
          go_wp2_with fail
          refine q3.mono ?_
          rintro e w4 ⟨d', c', rfl, b3, h3⟩
          obtain ⟨e0, e1, e2, e3, e4, e5⟩ := get6 b3
          have fz := blk_frozen b3
          obtain ⟨nx', hm3, h4⟩ := h3 _ (set6 b3 (.int .i64 c'.l) (.int .i64 c'.x) (.int .i64 c'.k) (.int .i64 c'.t) (.slice c'.oa c'.ol c'.oc) (.slice c'.na c'.nl c'.nc)) (tch6 _ _ _ _ _ _ _ _)
          have H4 : Hid _ := h4
          clear q3 b3 h3 h4
          go_wp2
          go_roundg (tot (rsOf ls nx))
          case measure => omega
          case rel => exact ⟨o1, n6 + 1, c1, d', c', nx', out ++ [c], rfl, rfl, hm3, H4⟩
end Go.Proofs.Ytmnhkgibplnnnaa
