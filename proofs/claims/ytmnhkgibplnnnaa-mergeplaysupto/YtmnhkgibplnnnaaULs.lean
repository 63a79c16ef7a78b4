import Derived.Test.YtmnhkgibplnnnaaUList
/- Lists. -/
namespace Go.Proofs.Ytmnhkgibplnnnaa
open Go.RowKit Go

/-- Blocks of values are kept. -/
def K76 (w w' : World) : Prop := ∀ (z : Nat) (cs : Array Value), w.heap[z]? = some (.cells cs 76 (0, 0)) → w'.heap[z]? = some (.cells cs 76 (0, 0))
theorem K76.of {S : Nat → Prop} {w w' : World} (t : Tch S w w') (h : ∀ z cs, w.heap[z]? = some (.cells cs 76 (0, 0)) → ¬ S z) : K76 w w' := fun z cs hz => (t.block z (blk_lt hz) (h z cs hz)).trans hz
theorem K76.trans {a b c : World} (h : K76 a b) (k : K76 b c) : K76 a c := fun z cs hz => k z cs (h z cs hz)
theorem OwnC.z {base : Nat} {w w' : World} {c : Rc} {a b : List Value} (h : OwnC base w c a b) (k : K76 w w') : OwnC base w' c a b := by
  refine ⟨⟨h.o.1, ?_⟩, ⟨h.n.1, ?_⟩, h.ne⟩
  · rcases h.o.2 with e | ⟨g, cap, cur, e, hb, hg, rest⟩
    · exact .inl e
    · exact .inr ⟨g, cap, cur, e, hb, k g cur hg, rest⟩
  · rcases h.n.2 with e | ⟨g, cap, cur, e, hb, hg, rest⟩
    · exact .inl e
    · exact .inr ⟨g, cap, cur, e, hb, k g cur hg, rest⟩
/-- What was told: out, as out' in memory; all rows apart. -/
structure Td (D : Rc → List Value × List Value) (N : Nat) (w : World) (out out' : List Rc) : Prop where
  len : out'.length = out.length
  el : ∀ (i : Nat) (c c' : Rc), out[i]? = some c → out'[i]? = some c' → Sm c c' ∧ OwnC N w c' (D c).1 (D c).2
  dis : ∀ (i j : Nat) (c c' : Rc), out'[i]? = some c → out'[j]? = some c' → i ≠ j → ∀ g, Bk c g → ¬ Bk c' g
theorem Td.nil (D : Rc → List Value × List Value) (N : Nat) (w : World) : Td D N w [] [] := ⟨rfl, fun i c c' h => by simp at h, fun i j c c' h => by simp at h⟩
theorem Td.z {D : Rc → List Value × List Value} {N : Nat} {w w' : World} {out out' : List Rc} (h : Td D N w out out') (k : K76 w w') : Td D N w' out out' :=
  ⟨h.len, fun i c c' e e' => ⟨(h.el i c c' e e').1, (h.el i c c' e e').2.z k⟩, h.dis⟩
theorem Td.lt {D : Rc → List Value × List Value} {N : Nat} {w : World} {out out' : List Rc} (h : Td D N w out out') {c' : Rc} (hc : c' ∈ out') {g : Nat} (hg : Bk c' g) : g < w.heap.size := by
  obtain ⟨i, hi⟩ := List.getElem?_of_mem hc
  have hl : i < out.length := by rw [← h.len]; exact (List.getElem?_eq_some_iff.1 hi).1
  exact ((h.el i _ c' (List.getElem?_eq_getElem hl) hi).2.lt hg).2
theorem Td.snoc {D : Rc → List Value × List Value} {N : Nat} {w : World} {out out' : List Rc} {c c' : Rc} (h : Td D N w out out') (hs : Sm c c') (ho : OwnC N w c' (D c).1 (D c).2) (hd : ∀ e ∈ out', ∀ g, Bk c' g → ¬ Bk e g) : Td D N w (out ++ [c]) (out' ++ [c']) := by
  have at' : ∀ (l : List Rc) (x y : Rc) (i : Nat), (l ++ [x])[i]? = some y → l[i]? = some y ∨ i = l.length ∧ x = y := fun l x y i e => by
    rcases Nat.lt_trichotomy i l.length with h1 | h1 | h1
    · rw [List.getElem?_append_left h1] at e; exact .inl e
    · subst h1
      rw [List.getElem?_append_right (Nat.le_refl _), Nat.sub_self] at e
      exact .inr ⟨rfl, by simpa using e⟩
    · rw [List.getElem?_eq_none (by simp; omega)] at e; cases e
  refine ⟨by simp [h.len], fun i a b e e' => ?_, fun i j a b e e' hne g hg hg' => ?_⟩
  · rcases at' _ _ _ _ e with e1 | ⟨e1, rfl⟩ <;> rcases at' _ _ _ _ e' with e2 | ⟨e2, rfl⟩
    · exact h.el i a b e1 e2
    · have := (List.getElem?_eq_some_iff.1 e1).1; have := h.len; omega
    · have := (List.getElem?_eq_some_iff.1 e2).1; have := h.len; omega
    · exact ⟨hs, ho⟩
  · rcases at' _ _ _ _ e with e1 | ⟨e1, rfl⟩ <;> rcases at' _ _ _ _ e' with e2 | ⟨e2, rfl⟩
    · exact h.dis i j a b e1 e2 hne g hg hg'
    · exact hd a (List.mem_of_getElem? e1) g hg' hg
    · exact hd b (List.mem_of_getElem? e2) g hg hg'
    · omega
/-- The state of the second loop: out is told, as out'; c, if d, is the next one, as c'. -/
structure L2 (D : Rc → List Value × List Value) (N : Nat) (w0 wr : World) (mb : Nat) (ls : List (List Rc)) (ao : Option Addr) (n6 c6 z : Nat) (d : Bool) (c c' : Rc) (rs : List (List Rc)) (out out' : List Rc) : Prop where
  ms : ∃ g cap L P B H, MS D N wr mb g cap L P B H rs ∧ ∀ (i : Nat) (a : Rc) (u : List Rc), rs[i]? = some (a :: u) → ∀ g, Bk (H i) g → (∀ e ∈ out', ¬ Bk e g) ∧ (d = true → ¬ Bk c' g)
  own : wr.ownsRow N 27 6 (.slice ao n6 c6) out'.length (kcl out')
  ln : n6 = out'.length
  blk : wr.heap[z]? = some (.cells (kc6 c').toArray 27 (0, 0))
  nz : N ≤ z
  az : (Value.slice ao n6 c6).ownBlock ≠ some z
  yes : d = true → (∀ rest, Mrg Rc.l rs rest → Mrg Rc.l ls (out ++ c :: rest)) ∧ Td D N wr (out ++ [c]) (out' ++ [c'])
  no : d = false → Mrg Rc.l ls out ∧ Td D N wr out out'
  len : rs.length = ls.length
  tot : out'.length + tot rs + (if d then 1 else 0) = tot ls
  ol : out.length = out'.length
  tch : Tch (fun i => N ≤ i) w0 wr
set_option maxHeartbeats 4000000 in
set_option maxRecDepth 2000000 in
theorem lists_any (D : Rc → List Value × List Value) (w : World) (lo : Option Addr) (lc : Nat) (hd : List Value) (ls : List (List Rc)) (h : LLs D w.heap.size w lo hd ls) (hlc : ls.length ≤ lc) (hs : ls.length ≤ 2000000) (ht : tot ls ≤ 2000000) :
    Calls Try.prog 7 #[.slice lo ls.length lc] w fun e w' => ∃ v out out', e = .returned v ∧ Mrg Rc.l ls out ∧ Td D w.heap.size w' out out' ∧ w'.ownsRow w.heap.size 27 6 v out'.length (kcl out') ∧ Tch (fun _ => False) w w' := by
  obtain ⟨N, hN⟩ : ∃ N, N = w.heap.size := ⟨_, rfl⟩
  have q := new_any D w
  rw [← hN] at h q
  obtain ⟨n, hn⟩ : ∃ n, n = ls.length := ⟨_, rfl⟩
  have Hn : Hid (n = ls.length) := hn
  have HL : Hid (LLs D N w lo hd ls) := h
  have HT : Hid (tot ls ≤ 2000000) := ht
  have HN : Hid (N = w.heap.size) := hN
  rw [← hn] at hs hlc ⊢
  have hwN : N ≤ w.heap.size := by omega
  clear h ht hN hn
  go_enter Try.func7, Try.ntmps7
  go_wp2_with fail
  refine q.mono ?_
  rintro e w1 ⟨rfl, ⟨g, cap, h1⟩, t1⟩
  have HM1 : Hid (∃ g cap L P B H, MS D N w1 (N + 1) g cap L P B H (ls.take 0)) := ⟨g, cap, [], _, _, _, by rw [List.take_zero]; exact h1⟩
  have HT1 : Hid (Tch (fun i => N ≤ i) w w1) := t1.mono (fun _ _ h => h.elim)
  clear q h1 t1
  go_wp2_with fail
  go_loopg [12] n (fun kx s12 wr => ∃ i : Nat, s12 = .int .i64 i ∧ n - i ≤ kx ∧ i ≤ n ∧ Hid ((∃ g cap L P B H, MS D N wr (N + 1) g cap L P B H (ls.take i)) ∧ Tch (fun i => N ≤ i) w wr))
  case atStart => exact ⟨0, rfl, by omega, by omega, (⟨HM1.out, HT1.out⟩ : (∃ g cap L P B H, MS D N w1 (N + 1) g cap L P B H (ls.take 0)) ∧ Tch (fun i => N ≤ i) w w1)⟩
  case round =>
    obtain ⟨i, rfl, hk, hin, I⟩ := hrel
    by_cases hi : i < n
    · have hi' : (i : Int) < (n : Int) := by omega
      obtain ⟨gl, ol, ao, cp, rfl, cl, hrl⟩ := (HL.out.tch I.out.2).get (i := i) (by rw [← Hn.out]; exact hi)
      obtain ⟨m, hm⟩ : ∃ m, m = (ls[i]'(by rw [← Hn.out]; exact hi)).length := ⟨_, rfl⟩
      rw [← hm] at cl
      have HR1 : Hid _ := And.intro hrl hm
      clear hrl hm
      have q2 := over_any (.slice ao m cp) ao m cp rfl wr
      go_wp2_with (go_at_call 23; refine q2.mono ?_; rintro e w2 ⟨rfl, hw2⟩)
      have hil : i < ls.length := by rw [← Hn.out]; exact hi
      have q3 : Calls Try.prog 10 #[.pointer (some ⟨N + 1, 0, none⟩), fV wr.heap.size] w2 fun e w' => e = .returned (.tuple #[]) ∧ (∃ g cap L P B H, MS D N w' (N + 1) g cap L P B H (ls.take (i + 1))) ∧ Tch (fun i => N ≤ i) w w' := by
        obtain ⟨⟨g, cap, L, P, B, H, hms⟩, tw⟩ := I.out
        obtain ⟨hrl, hm⟩ := HR1.out
        have t2 : Tch (fun _ => False) wr w2 := by rw [hw2]; exact Tch.alloc _ _ _
        have hb : w2.heap[wr.heap.size]? = some (.cells #[.slice ao (ls[i]'hil).length cp] 28 (0, 0)) := by rw [hw2, hm]; exact alloc_new _ _
        have hNr : N ≤ wr.heap.size := Nat.le_trans hwN tw.size
        refine (add_any D N (N + 1) g cap L P B H (ls.take i) w2 (hms.no t2) wr.heap.size (ls[i]'hil) ao cp hb (hrl.no t2) hNr (fun j hj e => by have := (hms.lt j hj).2; omega) (by rw [List.length_take]; omega)).mono ?_
        rintro e w' ⟨rfl, ⟨g', cap', L', H', h'⟩, _, t'⟩
        rw [← List.take_succ_eq_append_getElem hil] at h'
        exact ⟨rfl, ⟨g', cap', L', _, _, _, h'⟩, (tw.trans t2 (fun _ _ h => h.elim)).trans' t'⟩
      rw [hw2] at q3
      clear q2 cl
      refine q3.mono ?_
      rintro e w3 ⟨rfl, h3⟩
      have H3 : Hid _ := h3
      clear q3 h3 hw2
      go_wp2
      go_roundg (n - (i + 1))
      case measure => omega
      case rel => exact ⟨i + 1, rfl, by omega, by omega, H3⟩
    · have hi' : ¬ (i : Int) < (n : Int) := by omega
      obtain rfl : i = n := by omega
      have q2 : Calls Try.prog 13 #[.pointer (some ⟨N + 1, 0, none⟩)] wr fun e w' => ∃ (d : Bool) (c' : Rc), e = .returned (.tuple #[rcV c', .bool d]) ∧ ∀ w2, w2 = w'.alloc (.cells #[.int .i64 c'.l, .int .i64 c'.x, .int .i64 c'.k, .int .i64 c'.t, .slice c'.oa c'.ol c'.oc, .slice c'.na c'.nl c'.nc] 27) → ∃ c rs, L2 D N w w2 (N + 1) ls none 0 0 w'.heap.size d c c' rs [] [] := by
        obtain ⟨⟨g, cap, L, P, B, H, hms⟩, tw⟩ := I.out
        have e1 : ls.take i = ls := by rw [Hn.out]; exact List.take_length
        rw [e1] at hms
        refine (next_any hms (by rw [← Hn.out]; omega)).mono ?_
        rintro e w' ⟨d, c, c', rs', rfl, hy, hno, ⟨g', cap', L', H', h', hH⟩, t', h76, hz⟩
        refine ⟨d, c', rfl, fun w2 hw2 => ⟨c, rs', ?_⟩⟩
        have t2 : Tch (fun _ => False) w' w2 := by rw [hw2]; exact Tch.alloc _ _ _
        have k2 : K76 w' w2 := K76.of t2 (fun _ _ _ h => h)
        refine ⟨⟨g', cap', L', P, B, H', h'.no t2, fun i a u e g0 hg => ⟨fun e he => (by simp at he), fun hd hb => ?_⟩⟩, ⟨rfl, .inl ⟨rfl, rfl⟩⟩, rfl, by rw [hw2]; exact alloc_new _ _, Nat.le_trans (Nat.le_trans hwN tw.size) t'.size, by simp [Value.ownBlock], ?_, ?_, ?_, ?_, rfl, (tw.trans' t').trans t2 (fun _ _ h => h.elim)⟩
        · rcases hH i a u e g0 hg with h1 | ⟨h1, _⟩
          · have := (hy hd).2.2.2 g0 hb; omega
          · exact h1 hd hb
        · intro hd
          obtain ⟨⟨j, u, hpk, e2, _⟩, hsm, how, _⟩ := hy hd
          refine ⟨fun rest hr => ?_, (Td.nil D N w2).snoc hsm (how.z k2) (fun e he => by simp at he)⟩
          rw [e2] at hr
          exact Mrg.cons hpk hr
        · intro hd
          exact ⟨Mrg.nil (hno hd).1.2, Td.nil D N w2⟩
        · cases d with
          | true => obtain ⟨⟨j, u, _, e2, _⟩, _⟩ := hy rfl; rw [e2, List.length_set]
          | false => rw [(hno rfl).1.1]
        · cases d with
          | true => obtain ⟨⟨j, u, hpk, e2, _⟩, _⟩ := hy rfl; rw [e2, tot_set hpk.1]; simp
          | false => rw [(hno rfl).1.1]; simp
      unfold rcV at q2
      go_wp2_with fail
      refine q2.mono ?_
      rintro e w2 ⟨d, c', rfl, h2⟩
      obtain ⟨c, rs, h2⟩ := h2 _ rfl
      have H2 : Hid _ := h2
      clear q2 h2
      go_wp2_with fail
      go_loopg [6, 7, 8] 2000001 (fun kx s6 s7 s8 wx => ∃ (ao : Option Addr) (n6 c6 z : Nat) (d : Bool) (c c' : Rc) (rs : List (List Rc)) (out out' : List Rc), s6 = .slice ao n6 c6 ∧ s7 = .pointer (some ⟨z, 0, none⟩) ∧ s8 = .bool d ∧ tot rs + (if d then 1 else 0) ≤ kx ∧ Hid (L2 D N w wx (N + 1) ls ao n6 c6 z d c c' rs out out'))
      case atStart => exact ⟨none, 0, 0, _, d, c, c', rs, [], [], rfl, rfl, rfl, (by have := H2.out.tot; have := HT.out; simp at *; omega), H2⟩
      case round =>
        rename World => wx
        obtain ⟨ao, n6, c6, z, d, c, c', rs, out, out', rfl, rfl, rfl, hk2, J⟩ := hrel
        cases d with
        | false =>
          go_wp2
          go_ret
          refine ⟨_, out, out', rfl, (J.out.no rfl).1, ?_, ?_, ?_⟩
          · rw [← HN.out]; exact (J.out.no rfl).2
          · rw [← HN.out]; exact J.out.own
          · exact J.out.tch.mono (fun i hi e => by have := HN.out; omega)
        | true =>
          obtain ⟨i0, hi0, hz0, hz1, hz2⟩ := info_parts info_ch
          obtain ⟨g, cap, L, P, B, H, hms, hHd⟩ := J.out.ms
          have htot := J.out.tot
          have htm := HT.out
          simp only [if_true] at htot hk2
          have hNx : N ≤ wx.heap.size := Nat.le_trans hwN J.out.tch.size
          obtain ⟨wy, hwy⟩ : ∃ wy, wy = wx.alloc (.cells #[.int .i64 c'.l, .int .i64 c'.x, .int .i64 c'.k, .int .i64 c'.t, .slice c'.oa c'.ol c'.oc, .slice c'.na c'.nl c'.nc] 27) := ⟨_, rfl⟩
          have ty : Tch (fun _ => False) wx wy := by rw [hwy]; exact Tch.alloc _ _ _
          have by' : wy.heap[wx.heap.size]? = some (.cells (kc6 c').toArray 27 (0, 0)) := by rw [hwy]; exact alloc_new _ _
          have howny := own_tch J.out.own ty (fun _ _ h => h)
          obtain ⟨v1, w1, hr1, hown1, hgr1, _, hat1⟩ := run_append_own_at (P := Try.prog) wy N 28 28 27 i0 _ 6 80 Try.underlying28 hi0 hz0 hz1 hz2 rfl (by decide) _ _ _ howny ⟨wx.heap.size, 0, none⟩ 1 1 (kc6 c') rfl (fun j u hu => by rw [add_plain, Nat.zero_add, blk_cell by', List.getElem?_toArray]; exact hu)
            (fun u hu => by simp only [kc6, List.mem_cons, List.not_mem_nil, or_false] at hu; rcases hu with rfl | rfl | rfl | rfl | rfl | rfl <;> rfl) (by unfold maxLen; omega) (by omega) (Nat.le_trans hNx ty.size)
          have t1 : Tch (fun i => (Value.slice ao n6 c6).ownBlock = some i) wy w1 := Tch.of_grown hgr1 (fun g e => e)
          have hms1 := (hms.no ty).aside' howny t1
          obtain ⟨o1, c1, rfl⟩ := row_slice hown1
          have hzx := J.out.blk
          have hzy := (ty.block z (blk_lt hzx) (fun h => h)).trans hzx
          have hz1' := (t1.block z (blk_lt hzy) J.out.az).trans hzy
          obtain ⟨e0, e1, e2, e3, e4, e5⟩ := get6 hzx
          obtain ⟨f0, f1, f2, f3, f4, f5⟩ := get6 hz1'
          obtain ⟨N1, hN1⟩ : ∃ N1, N1 = w1.heap.size := ⟨_, rfl⟩
          obtain ⟨w2, hw2⟩ : ∃ w2, w2 = w1.alloc (.cells #[.int .i64 c'.l, .int .i64 c'.x, .int .i64 c'.k, .int .i64 c'.t, .slice c'.oa c'.ol c'.oc, .slice c'.na c'.nl c'.nc] 27) := ⟨_, rfl⟩
          have t2 : Tch (fun _ => False) w1 w2 := by rw [hw2]; exact Tch.alloc _ _ _
          have b2 : w2.heap[N1]? = some (.cells #[.int .i64 c'.l, .int .i64 c'.x, .int .i64 c'.k, .int .i64 c'.t, .slice c'.oa c'.ol c'.oc, .slice c'.na c'.nl c'.nc] 27 (0, 0)) := by rw [hw2, hN1]; exact alloc_new _ _
          have tx2 : Tch (fun i => N ≤ i) wx w2 := ((ty.mono (fun _ _ h => h.elim)).trans t1 (fun i hi e => (howny.lt i e).1)).trans t2 (fun _ _ h => h.elim)
          have hnb : (Value.slice o1 (out'.length + 1) c1).ownBlock ≠ some N1 := fun e => by have := (hown1.lt N1 e).2; omega
          have hln : out'.length = n6 := J.out.ln.symm
          have k12 : K76 wx w2 := (K76.of ty (fun _ _ _ h => h)).trans ((K76.of t1 (fun z cs hz2 e => by
            rcases howny.2 with ⟨e2, _⟩ | ⟨g2, _, _, e2, _, hg2, _⟩
            · rw [e2] at e; cases e
            · rw [e2] at e
              have : g2 = z := by simpa [Value.ownBlock] using e
              subst this
              exact ne_ty hz2 hg2 (by decide) rfl)).trans (K76.of t2 (fun _ _ _ h => h)))
          have q3 : Calls Try.prog 13 #[.pointer (some ⟨N + 1, 0, none⟩)] w2 fun e w' => ∃ (d' : Bool) (c2 : Rc), e = .returned (.tuple #[.agg #[.int .i64 c2.l, .int .i64 c2.x, .int .i64 c2.k, .int .i64 c2.t, .slice c2.oa c2.ol c2.oc, .slice c2.na c2.nl c2.nc], .bool d']) ∧ w'.heap[N1]? = some (.cells #[.int .i64 c'.l, .int .i64 c'.x, .int .i64 c'.k, .int .i64 c'.t, .slice c'.oa c'.ol c'.oc, .slice c'.na c'.nl c'.nc] 27 (0, 0)) ∧ ∀ w4, w4.heap[N1]? = some (.cells (kc6 c2).toArray 27 (0, 0)) → Tch (fun i => i = N1) w' w4 → ∃ c1' rs', tot rs' + (if d' then 1 else 0) ≤ tot rs ∧ L2 D N w w4 (N + 1) ls o1 (n6 + 1) c1 N1 d' c1' c2 rs' (out ++ [c]) (out' ++ [c']) := by
            refine (next_any (hms1.no t2) (by rw [J.out.len, ← Hn.out]; omega)).mono ?_
            rintro e w' ⟨d', c1', c2, rs', rfl, hy, hno, ⟨g', cap', L', H', h', hH⟩, t', h76, hz⟩
            have b3 := hz N1 _ b2
            refine ⟨d', c2, rfl, b3, fun w4 b4 t4 => ?_⟩
            have k4 : K76 w2 w4 := K76.trans h76 (K76.of t4 (fun z cs hz2 e => ne_ty hz2 b3 (by decide) e))
            have hTd := ((J.out.yes rfl).2.z k12).z k4
            refine ⟨c1', rs', ?_, ⟨g', cap', L', P, B, H', h'.aside b3 (by rw [hN1]; exact Nat.le_trans hNx (Nat.le_trans ty.size t1.size)) t4, fun i a u e g0 hg => ?_⟩, ?_, ?_, b4, by rw [hN1]; exact Nat.le_trans hNx (Nat.le_trans ty.size t1.size), by rw [← hln]; exact hnb, ?_, ?_, ?_, ?_, by simp [J.out.ol], ?_⟩
            · cases d' with
              | true => obtain ⟨⟨j, u, hpk, e2, _⟩, _⟩ := hy rfl; rw [e2, tot_set hpk.1]; simp
              | false => rw [(hno rfl).1.1]; simp
            · rcases hH i a u e g0 hg with h1 | ⟨h1, bb, vv, eb, h2⟩
              · refine ⟨fun e he hb => ?_, fun hd hb => ?_⟩
                · have := ((J.out.yes rfl).2.z k12).lt he hb; omega
                · have := (hy hd).2.2.2 g0 hb; omega
              · refine ⟨fun e he hb => ?_, h1⟩
                rcases List.mem_append.1 he with he | he
                · exact (hHd i bb vv eb g0 h2).1 e he hb
                · obtain rfl : e = c' := by simpa using he
                  exact (hHd i bb vv eb g0 h2).2 rfl hb
            · have := own_tch (own_z (own_tch hown1 t2 (fun _ _ h => h)) hz) t4 (fun g e e2 => hnb (by rw [e, e2]))
              rw [hln] at this
              rw [kcl_snoc, List.length_append, List.length_singleton, hln]; exact this
            · rw [List.length_append, List.length_singleton, hln]
            · intro hd
              obtain ⟨⟨j, u, hpk, e2, e3⟩, hsm, how, _⟩ := hy hd
              refine ⟨fun rest hr => ?_, hTd.snoc hsm (how.z (K76.of t4 (fun z cs hz2 e => ne_ty hz2 b3 (by decide) e))) (fun e he g0 hg hb => ?_)⟩
              · rw [e2] at hr
                have := (J.out.yes rfl).1 (c1' :: rest) (Mrg.cons hpk hr)
                rw [List.append_assoc]; exact this
              · rw [e3] at hg
                rcases List.mem_append.1 he with he | he
                · exact (hHd j _ _ hpk.1 g0 hg).1 e he hb
                · obtain rfl : e = c' := by simpa using he
                  exact (hHd j _ _ hpk.1 g0 hg).2 rfl hb
            · intro hd
              exact ⟨(J.out.yes rfl).1 [] (Mrg.nil (hno hd).1.2), hTd⟩
            · rw [← J.out.len]
              cases d' with
              | true => obtain ⟨⟨j, u, _, e2, _⟩, _⟩ := hy rfl; rw [e2, List.length_set]
              | false => rw [(hno rfl).1.1]
            · rw [List.length_append, List.length_singleton]
              cases d' with
              | true => obtain ⟨⟨j, u, hpk, e2, _⟩, _⟩ := hy rfl; have := tot_set hpk.1; rw [e2]; simp only [if_true]; omega
              | false => rw [(hno rfl).1.1]; simp only [Bool.false_eq_true, if_false]; omega
            · exact (J.out.tch.trans' (tx2.trans' t')).trans t4 (fun i hi e => by have := hwN; have := J.out.tch.size; have := ty.size; have := t1.size; omega)
          rw [hln] at hr1
          have HWy : Hid (wy = _) := hwy
          have HW2 : Hid (w2 = _) := hw2
          have HN1 : Hid (N1 = _) := hN1
          rw [hwy] at hr1
          clear hHd k12 hms hms1 hNx hwy ty by' howny hown1 hgr1 hat1 t1 hzx hzy hz1' hw2 t2 b2 tx2 hnb hln hN1 htot htm hi0 hz0 hz1 hz2
          go_upto_region 12 with (at_builtin; refine wpList_app _ rfl _ _ 28 rfl rfl _ _ rfl rfl hr1 ?_)
          clear e0 e1 e2 e3 e4 e5 hr1
          go_upto_region 10 with (fail)
          rw [← HW2.out, ← HN1.out]
          clear f0 f1 f2 f3 f4 f5
          go_wp2_with fail
          refine q3.mono ?_
          rintro e w3 ⟨d', c2, rfl, b3, h3⟩
          obtain ⟨e0, e1, e2, e3, e4, e5⟩ := get6 b3
          have fz := blk_frozen b3
          obtain ⟨c1', rs', hm3, h4⟩ := h3 _ (set6 b3 (.int .i64 c2.l) (.int .i64 c2.x) (.int .i64 c2.k) (.int .i64 c2.t) (.slice c2.oa c2.ol c2.oc) (.slice c2.na c2.nl c2.nc)) (tch6 _ _ _ _ _ _ _ _)
          have H4 : Hid _ := h4
          clear q3 b3 h3 h4
          go_wp2
          go_roundg (tot rs)
          case measure => omega
          case rel => exact ⟨o1, n6 + 1, c1, N1, d', c1', c2, rs', out ++ [c], out' ++ [c'], rfl, rfl, rfl, hm3, H4⟩
end Go.Proofs.Ytmnhkgibplnnnaa
