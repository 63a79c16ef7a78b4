import Derived.Test.YtjiblajnfnmjnaaGreatDoorCPure
import Derived.Test.YtjiblajnfnmjnaaGreatDoorRV5
import Derived.Test.YtjiblajnfnmjnaaGreatDoorRW2
import Derived.Test.YtjiblajnfnmjnaaGreatDoorCCopy
import Derived.Deep.AppendLies
import Derived.BigQuiet
set_option maxHeartbeats 8000000
set_option maxRecDepth 100000
namespace Go.Proofs.YtjiblajnfnmjnaaGreatDoor
open Go.RowKit Go
section
variable {P : Program} (w : World)
theorem run_append_keeps (base : Nat) (t ty e : TypeId) (i : TypeInfo) (z : Value) (size bytes : Nat) (ht : P.underlying t = some (.slice e)) (hi : P.info? e = some i) (hz : i.zero = some z)
    (hsize : i.size = size) (hby : i.bytes = bytes) (hzs : z.cells.size = size) (hsz : 0 < size)
    (v : Value) (n : Nat) (xs : List Value) (hown : w.ownsRow base e size v n xs)
    (a : Addr) (m c : Nat) (news : List Value) (hl : news.length = m * size) (hnews : ∀ j u, news[j]? = some u → w.cell? (a.add j) = some u) (h1 : ∀ u ∈ news, u.oneCell' = true)
    (h63 : n + m ≤ maxLen) (hbytes : (n + m) * bytes ≤ 140737488355328) (hbase : base ≤ w.heap.size) :
    ∃ v' w', (Builtin.append_ #[t, t] ty #[v, .slice (some a) m c]).run P w = .ok v' w' ∧ w'.ownsRow base e size v' (n + m) (xs ++ news) ∧ w.grownBy w' v.ownBlock ∧ (v'.ownBlock = v.ownBlock ∨ v'.ownBlock = some w.heap.size) ∧
      ∀ b j, b < w.heap.size → (v.ownBlock = some b → j < n * size) → w'.cell? ⟨b, j, none⟩ = w.cell? ⟨b, j, none⟩ := by
  obtain ⟨v', w', hr, h2, h3, _, h5⟩ := run_append_own_at (P := P) w base t ty e i z size bytes ht hi hz hsize hby hzs hsz v n xs hown a m c news hl hnews h1 h63 hbytes hbase
  refine ⟨v', w', hr, h2, h3, h5, fun b j hb hj => ?_⟩
  by_cases hvb : v.ownBlock = some b
  · rcases hown.2 with ⟨rfl, rfl⟩ | ⟨g, cap, cur, rfl, hbg, hg, hnc, hcm, hcs, htake⟩
    · cases hvb
    · have hgb : g = b := by simpa [Value.ownBlock] using hvb
      subst hgb
      have hj' := hj hvb
      by_cases hroom : n + m ≤ cap
      · have hfit : n * i.size + news.length ≤ cur.size := by rw [hl, hcs, hsize, ← Nat.add_mul]; exact Nat.mul_le_mul_right _ hroom
        have hr2 := run_append_room (P := P) w t ty e i ht hi g n cap cur hg a m c news (by rw [hsize]; exact hl) hnews h1 hroom hfit
        rw [hr] at hr2
        simp only [Result.ok.injEq] at hr2
        obtain ⟨rfl, rfl⟩ := hr2
        rw [h2.cellAt j (by rw [Nat.add_mul]; omega), hown.cellAt j hj', List.getElem?_append_left (by rw [hown.1]; exact hj')]
      · have holds : ∀ j u, xs[j]? = some u → w.cell? ((⟨g, 0, none⟩ : Addr).add j) = some u := hown.cells (g := g) rfl
        have hr2 := run_append_grow (P := P) w t ty e i z ht hi hz ⟨g, 0, none⟩ n cap xs (by rw [hsize]; exact hown.1) holds a m c news (by rw [hsize]; exact hl) hnews (by omega) (by simp only [maxLen] at h63; omega) (by rw [hby]; exact growslice_fits (by omega) hbytes)
        rw [hr] at hr2
        simp only [Result.ok.injEq] at hr2
        obtain ⟨_, rfl⟩ := hr2
        exact World.cell?_of_block (heap_alloc_old w.drew _ hb)
  · exact World.cell?_of_block (h3.block b hb (fun e => hvb e.symm))
end
end Go.Proofs.YtjiblajnfnmjnaaGreatDoor
namespace Go.Proofs.YtjiblajnfnmjnaaGreatDoor.C
open Go.RowKit Go Go.Sort
def mkV : Val := ⟨-7, 0, ⟨#[]⟩⟩
def MR (W : World) (base : Nat) (l : List Val) (v : Value) : Prop := ∃ g cap cur, v = .slice (some ⟨g, 0, none⟩) l.length cap ∧ base ≤ g ∧ l.length + 1 ≤ cap ∧ W.heap[g]? = some (.cells cur 58 (0, 0)) ∧ cur.toList.take ((l.length + 1) * 3) = vcl (l ++ [mkV])
theorem rq_nil_no (ad : Addr) (n c : Nat) (w : World) : (binOp .eql 24 (.slice (some ad) n c) (.slice none 0 0)).run Tryz.prog w = .ok (.bool false) w := Lib.run_eql_slice_some_nil w ad n c Tryz.underlying24
theorem rq_nil_yes (w : World) : (binOp .eql 24 (.slice none 0 0) (.slice none 0 0)).run Tryz.prog w = .ok (.bool true) w := Lib.run_eql_slice_nil_nil w 0 0 Tryz.underlying24
theorem lentRow_nil (w : World) : Calls Tryz.prog 42 #[.slice none 0 0] w fun x w' => x = .returned (.slice none 0 0) ∧ w' = w := by
  have he := rq_nil_yes
  go_enter Tryz.func42, Tryz.ntmps42
  go_wp2
  go_ret
  exact ⟨rfl, rfl⟩
theorem own_some {w : World} {base : Nat} {t : TypeId} {sz n : Nat} {v : Value} {xs : List Value} (h : w.ownsRow base t sz v n xs) (h0 : 0 < n) : ∃ g cap cur, v = .slice (some ⟨g, 0, none⟩) n cap ∧ base ≤ g ∧ n ≤ cap ∧ cap ≤ maxLen ∧ w.heap[g]? = some (.cells cur t (0, 0)) ∧ cur.toList.take (n * sz) = xs := by
  rcases h.2 with ⟨_, h1⟩ | ⟨g, cap, cur, h1, h2, h3, h4, h5, h6, h7⟩
  · omega
  · exact ⟨g, cap, cur, h1, h2, h4, h5, h3, h7⟩
theorem mk_news (W : World) : ∀ j u, (vcl [mkV])[j]? = some u → (W.alloc (.cells #[.int .i64 (-7), .int .i64 0, .string ⟨#[]⟩] 58)).cell? ((⟨W.heap.size, 0, none⟩ : Addr).add j) = some u := World.news_of_block (alloc_new W (.cells #[.int .i64 (-7), .int .i64 0, .string ⟨#[]⟩] 58))
theorem lentRow_any (l : List Val) (ad : Addr) (c : Nat) (w : World) (hcells : ∀ j u, (vcl l)[j]? = some u → w.cell? (ad.add j) = some u) (hlen : l.length * 32 ≤ 140737488351232) :
    Calls Tryz.prog 42 #[.slice (some ad) l.length c] w fun x w' => (∃ v, x = .returned v ∧ MR w' w.heap.size l v) ∧ Tch (fun _ => False) w w' := by
  obtain ⟨i0, hi, hz0, hz1, hz2⟩ := info_parts info_val
  have HI : Hid (i0.zero = some (.agg #[.int .i64 0, .int .i64 0, .string ⟨#[]⟩]) ∧ i0.size = 3 ∧ i0.bytes = 32) := ⟨hz0, hz1, hz2⟩
  clear hz0 hz1 hz2
  have he := rq_nil_no ad l.length c
  have HC : Hid _ := hcells
  have HL : Hid (l.length * 32 ≤ 140737488351232) := hlen
  obtain ⟨n, hn⟩ : ∃ n, n = l.length := ⟨_, rfl⟩
  rw [← hn] at he ⊢
  have HN : Hid (n = l.length) := hn
  have hnn : n ≤ 4398046511104 := by omega
  clear hcells hlen hn
  go_enter Tryz.func42, Tryz.ntmps42
  go_wp2_with (at_builtin; refine wpList_append_own _ rfl _ _ 24 rfl w.heap.size 58 i0 (.agg #[.int .i64 0, .int .i64 0, .string ⟨#[]⟩]) 3 32 Tryz.underlying24 hi HI.out.1 HI.out.2.1 HI.out.2.2 rfl (by decide) (.slice none 0 0) 0 [] rfl (World.ownsRow_nil _ _ _ _) ad n c (vcl l) rfl (by rw [vcl_len, HN.out]) HC.out (vcl_one l) (by have := HL.out; have := HN.out; unfold maxLen; omega) (by have := HL.out; have := HN.out; omega) (Nat.le_refl _) ?_; intro v1 w1 hown1 hgr1 hnil1; clear hnil1; refine Hid.out ?_)
  unfold Hid
  rw [Nat.zero_add, List.nil_append] at hown1
  obtain ⟨ao1, cp1, hv1⟩ := row_slice hown1
  subst hv1
  have HO1 : Hid (w1.ownsRow w.heap.size 58 3 (.slice ao1 n cp1) n (vcl l)) := hown1
  have T1 : Tch (fun i => w.heap.size ≤ i) w w1 := grown_tch2 hgr1 (fun g hg => by simp [Value.ownBlock] at hg)
  have HT1 : Hid (Tch (fun i => w.heap.size ≤ i) w w1) := T1
  have hz1 : w.heap.size ≤ w1.heap.size := T1.size
  clear hown1 hgr1 T1 HC he
  go_wp2_with (at_builtin; refine wpList_append_own _ rfl _ _ 24 rfl w.heap.size 58 i0 (.agg #[.int .i64 0, .int .i64 0, .string ⟨#[]⟩]) 3 32 Tryz.underlying24 hi HI.out.1 HI.out.2.1 HI.out.2.2 rfl (by decide) (.slice ao1 n cp1) n (vcl l) rfl (HO1.out.alloc _) ⟨w1.heap.size, 0, none⟩ 1 1 (vcl [mkV]) rfl rfl (mk_news w1) (vcl_one _) (by have := HL.out; have := HN.out; unfold maxLen; omega) (by have := HL.out; have := HN.out; omega) (by rw [World.size_alloc]; omega) ?_; intro v2 w2 hown2 hgr2 hnil2; clear hnil2; refine Hid.out ?_)
  unfold Hid
  obtain ⟨g, cap, cur, hv2, hg, hcap, hcm, hb, htk⟩ := own_some hown2 (by omega)
  subst hv2
  have T2 : Tch (fun i => w.heap.size ≤ i) w w2 := HT1.out.trans' ((Tch.alloc _ _ _).trans' (grown_tch2 hgr2 (fun g hg => row_ge HO1.out hg)))
  have HR : Hid (MR w2 w.heap.size l (.slice (some ⟨g, 0, none⟩) n cap) ∧ Tch (fun _ => False) w w2) := by
    refine ⟨⟨g, cap, cur, by rw [HN.out], hg, by have := HN.out; omega, hb, ?_⟩, T2.mono (fun i hi h => by omega)⟩
    rw [← HN.out, htk]
    unfold vcl
    simp [f3]
  have hcap' : (n : Int) ≤ (cap : Int) := by omega
  clear hown2 hgr2 hb htk T2 HO1 HT1 hg hcap hcm
  go_wp2_with fail
  go_ret
  exact ⟨⟨_, rfl, HR.out.1⟩, HR.out.2⟩
end Go.Proofs.YtjiblajnfnmjnaaGreatDoor.C
namespace Go.Proofs.YtjiblajnfnmjnaaGreatDoor
set_option maxRecDepth 100000
open Go
def fOp (P : Program) (ops : Array Oper) (S : List Nat) (C : List (Nat × Value) → World → Prop) (i : Nat) (K : List (Nat × Value) → Act → Prop) (s : List (Nat × Value)) (a : Act) : Prop :=
  match ops[i]? with
  | none => K s a
  | some o =>
    if Region.wanted o (yielded ops a.tmps) then
      (if S.contains i then (∀ W, C s W → YV P o a (fun v => C (s ++ [(i, v)])) W) ∧ (∀ v, (∃ W', C (s ++ [(i, v)]) W') → K (s ++ [(i, v)]) (a.put o.dst v)) else ∃ v, (∀ s' W, C (s ++ s') W → YS P o a (C (s ++ s')) W v) ∧ K s (a.put o.dst v))
    else K s (a.put o.dst undef)
theorem fOp_mono {P : Program} {ops : Array Oper} {S : List Nat} {C : List (Nat × Value) → World → Prop} {i : Nat} {K K' : List (Nat × Value) → Act → Prop} {s : List (Nat × Value)} {a : Act} (h : ∀ s a, K s a → K' s a) (hh : fOp P ops S C i K s a) : fOp P ops S C i K' s a := by
  unfold fOp at *
  split
  · rename_i ho; simp only [ho] at hh; exact h _ _ hh
  · rename_i o ho
    simp only [ho] at hh
    split
    · rename_i hw
      simp only [hw, if_true] at hh
      split
      · rename_i hs; rw [if_pos hs] at hh; obtain ⟨h1, h2⟩ := hh; exact ⟨h1, fun v hv => h _ _ (h2 v hv)⟩
      · rename_i hs; rw [if_neg hs] at hh; obtain ⟨v, h1, h2⟩ := hh; exact ⟨v, h1, h _ _ h2⟩
    · rename_i hw; rw [if_neg hw] at hh; exact h _ _ hh
theorem wpOp_of_fOp {P : Program} {ops : Array Oper} {S : List Nat} {C : List (Nat × Value) → World → Prop} {i : Nat} {s : List (Nat × Value)} {K : List (Nat × Value) → Act → Prop} {K' : Act → World → Prop} {Q' : Exit → Act → World → Prop} {a : Act} {w : World} (hC : C s w) (h : ∀ s a w', C s w' → K s a → K' a w') (hh : fOp P ops S C i K s a) : wpOp P ops Q' i K' a w := by
  unfold fOp at hh
  unfold wpOp
  split
  · rename_i ho; simp only [ho] at hh; exact h _ _ _ hC hh
  · rename_i o ho
    simp only [ho] at hh
    split
    · rename_i hw
      simp only [hw, if_true] at hh
      left
      split at hh
      · obtain ⟨h1, h2⟩ := hh
        exact h1 w hC a K' Q' (fun v W' hW' => h _ _ _ hW' (h2 v ⟨W', hW'⟩))
      · obtain ⟨v, h1, h2⟩ := hh
        have h1' := h1 [] w (by simpa using hC) a K' Q'
        refine h1' (fun W' hW' => h _ _ _ (by simpa using hW') h2)
    · rename_i hw; rw [if_neg hw] at hh; exact h _ _ _ hC hh
def YF (P : Program) (ops : Array Oper) (C : List (Nat × Value) → World → Prop) (o : Oper) (v : Value) (s : List (Nat × Value)) (a : Act) : Prop :=
  (Region.wanted o (yielded ops a.tmps) = true ∧ ∀ s' W, C (s ++ s') W → YS P o a (C (s ++ s')) W v) ∨
  (Region.wanted o (yielded ops a.tmps) = false ∧ v = undef)
theorem YF.fOp {P : Program} {ops : Array Oper} {S : List Nat} {C : List (Nat × Value) → World → Prop} {i : Nat} {o : Oper} {v : Value} {s : List (Nat × Value)} {a : Act} (hi : ops[i]? = some o) (hs : S.contains i = false) (hy : YF P ops C o v s a) {K : List (Nat × Value) → Act → Prop} (h : K s (a.put o.dst v)) : fOp P ops S C i K s a := by
  unfold Go.Proofs.YtjiblajnfnmjnaaGreatDoor.fOp
  simp only [hi]
  rcases hy with ⟨hw, hv⟩ | ⟨hw, rfl⟩
  · simp only [hw, hs, if_true, Bool.false_eq_true, if_false]; exact ⟨v, hv, h⟩
  · simp only [hw, Bool.false_eq_true, if_false]; exact h
theorem yf_of_fOp {P : Program} {ops : Array Oper} {S : List Nat} {C : List (Nat × Value) → World → Prop} {i : Nat} {o : Oper} {s : List (Nat × Value)} {a : Act} {K : List (Nat × Value) → Act → Prop} (hi : ops[i]? = some o) (hs : S.contains i = false) (h : fOp P ops S C i K s a) : ∃ v, YF P ops C o v s a ∧ K s (a.put o.dst v) := by
  unfold fOp at h
  simp only [hi] at h
  by_cases hw : Region.wanted o (yielded ops a.tmps) = true
  · simp only [hw, if_true] at h
    rw [if_neg (by rw [hs]; exact Bool.false_ne_true)] at h
    obtain ⟨v, h1, h2⟩ := h
    exact ⟨v, .inl ⟨hw, h1⟩, h2⟩
  · rw [if_neg hw] at h
    exact ⟨undef, .inr ⟨by simpa using hw, rfl⟩, h⟩
theorem YF.keep {P : Program} {ops : Array Oper} {C : List (Nat × Value) → World → Prop} {o : Oper} {v : Value} {s : List (Nat × Value)} {a a' : Act} (hy : YF P ops C o v s a) (he : execOp a'.eval o = execOp a.eval o)
    (hw : Region.wanted o (yielded ops a'.tmps) = Region.wanted o (yielded ops a.tmps)) (t : List (Nat × Value)) : YF P ops C o v (s ++ t) a' := by
  rcases hy with ⟨h1, h4⟩ | ⟨h1, h3⟩
  · refine .inl ⟨hw.trans h1, fun s' W hW => ?_⟩
    rw [List.append_assoc] at hW ⊢
    exact (h4 (t ++ s') W hW).same he
  · exact .inr ⟨hw.trans h1, h3⟩
theorem fOp_put {P : Program} {ops : Array Oper} {S : List Nat} {C : List (Nat × Value) → World → Prop} {j : Nat} {oj : Oper} {s : List (Nat × Value)} {a b : Act} {K K' : List (Nat × Value) → Act → Prop} (hj : ops[j]? = some oj) (he : execOp a.eval oj = execOp b.eval oj) (hw : Region.wanted oj (yielded ops a.tmps) = Region.wanted oj (yielded ops b.tmps))
    (hh : fOp P ops S C j K s b) (hK : ∀ t u, K (s ++ t) (b.put oj.dst u) → K' (s ++ t) (a.put oj.dst u)) : fOp P ops S C j K' s a := by
  unfold fOp at *
  simp only [hj] at *
  rw [hw]
  split
  · rename_i h1
    rw [if_pos h1] at hh
    split
    · rename_i h2
      rw [if_pos h2] at hh
      exact ⟨fun W hW => (hh.1 W hW).same he, fun v hv => hK [(j, v)] v (hh.2 v hv)⟩
    · rename_i h2
      rw [if_neg h2] at hh
      obtain ⟨v, h3, h4⟩ := hh
      have := hK [] v (by simpa using h4)
      exact ⟨v, fun s' W hW => (h3 s' W hW).same he, by simpa using this⟩
  · rename_i h1
    rw [if_neg h1] at hh
    have := hK [] undef (by simpa using hh)
    simpa using this
def headF (P : Program) (md : Region.Mode) (ops : Array Oper) (S : List Nat) (C : List (Nat × Value) → World → Prop) (n : Nat) (L : Array Bool → List (Nat × Value) → Act → Prop) : Nat → Array Bool → List (Nat × Value) → Act → Prop
  | 0, listed, s, a => L listed s a
  | f + 1, listed, s, a => Region.ready md ops listed ≠ [] ∧ ∀ i ∈ Region.ready md ops listed, i < n ∧ fOp P ops S C i (headF P md ops S C n L f (listed.setIfInBounds i true)) s a
theorem headF_any {P : Program} {ops : Array Oper} {md : Region.Mode} {S : List Nat} {C : List (Nat × Value) → World → Prop} {n g : Nat} {L : Array Bool → List (Nat × Value) → Act → Prop} {Q' : Exit → Act → World → Prop} (hL : ∀ listed s a w, C s w → L listed s a → wpAny P md ops Q' g listed a w) (f : Nat) :
    ∀ (listed : Array Bool) (s : List (Nat × Value)) (a : Act) (w : World), C s w → headF P md ops S C n L f listed s a → wpAny P md ops Q' (f + g) listed a w := by
  induction f with
  | zero => intro listed s a w hw h; rw [Nat.zero_add]; exact hL _ _ _ _ hw h
  | succ f ih =>
    intro listed s a w hw h
    rw [Nat.succ_add]
    exact ⟨fun h0 => absurd h0 h.1, fun i hi => wpOp_of_fOp hw (fun s' a' w' hw' h' => ih _ s' a' w' hw' h') (h.2 i hi).2⟩
theorem headF_first {P : Program} {ops : Array Oper} {md : Region.Mode} {S : List Nat} {C : List (Nat × Value) → World → Prop} {n i : Nat} {oi : Oper} {v : Value} {L : Array Bool → List (Nat × Value) → Act → Prop} (hi : ops[i]? = some oi) (hsi : S.contains i = false) (hsel : ∀ (j : Nat) (o : Oper) cs b, ops[j]? = some o → o.op ≠ .select cs b)
    (hs : Region.sinkB md ops n = true) (hc : Region.chainB md ops n = true) (hn : n < ops.size) (hin : i < n)
    (hdone : ∀ listed s a, L listed s a → ∀ j ∈ Region.ready md ops listed, n ≤ j) (f : Nat) :
    ∀ (listed : Array Bool) (s : List (Nat × Value)) (a : Act), HeadInv md ops n listed →
      (∀ j oj, ops[j]? = some oj → j ≠ i → listed.getD j true = false → (∀ e ∈ oj.after, Region.binds md e = true → e.on ≠ i) → oi.apart ops oj = true) →
      i ∈ Region.ready md ops listed → YF P ops C oi v s a →
      headF P md ops S C n L f (listed.setIfInBounds i true) s (a.put oi.dst v) → headF P md ops S C n L (f + 1) listed s a := by
  have low : ∀ (listed : Array Bool), HeadInv md ops n listed → i ∈ Region.ready md ops listed → ∀ j ∈ Region.ready md ops listed, j < n := by
    intro listed inv hr j hj
    rcases Nat.lt_or_ge j n with h | h
    · exact h
    · exact absurd hj (tail_waits hs hc hn inv _ i rfl hin (mem_ready.1 hr).1 j h)
  have ne : ∀ (listed : Array Bool), i ∈ Region.ready md ops listed → Region.ready md ops listed ≠ [] := fun listed hr h => by rw [h] at hr; cases hr
  induction f with
  | zero =>
    intro listed s a inv _ hr hy H
    refine ⟨ne _ hr, fun j hj => ⟨low _ inv hr j hj, ?_⟩⟩
    by_cases hji : j = i
    · subst hji; exact hy.fOp hi hsi H
    · have h1 := hdone _ _ _ H j (ready_mono hj hji)
      have h2 := low _ inv hr j hj
      omega
  | succ f ih =>
    intro listed s a inv hfree hr hy H
    refine ⟨ne _ hr, fun j hj => ⟨low _ inv hr j hj, ?_⟩⟩
    by_cases hji : j = i
    · subst hji; exact hy.fOp hi hsi H
    · obtain ⟨hjun, oj, hoj, hall⟩ := mem_ready.1 hj
      have hnot : ∀ e ∈ oj.after, Region.binds md e = true → e.on ≠ i := fun e he hb heq => by
        have h1 := hall e he hb
        rw [heq, getD_both (mem_ready.1 hr).1] at h1
        cases h1
      obtain ⟨h1, h2, h3⟩ := Oper.apart_spec (hfree j oj hoj hji hjun hnot)
      refine fOp_put hoj (execOp_put oj (fun cs b => hsel j oj cs b hoj) a oi.dst v h1).symm (wanted_put oj a oi.dst v h1).symm (H.2 j (ready_mono hj hji)).2 (fun t u hn' => ?_)
      refine ih (listed.setIfInBounds j true) (s ++ t) (a.put oj.dst u) (inv.set hj (low _ inv hr j hj)) (fun m om hm hmi hun hno => hfree m om hm hmi ?_ hno) (ready_mono hr (Ne.symm hji)) ?_ ?_
      · by_cases hjm : j = m
        · subst hjm; exact hjun
        · rwa [getD_set_ne true hjm] at hun
      · exact hy.keep (execOp_put oi (fun cs b => hsel i oi cs b hi) a oj.dst u h3) (wanted_put oi a oj.dst u h3) t
      · rw [Array.setIfInBounds_comm _ _ hji, ← Act.put_comm a v u h2]
        exact hn'
inductive OT where
  | done : OT
  | one : Nat → OT → OT
  | two : Nat → Nat → OT → OT → OT
def OT.len : OT → Nat
  | .done => 0
  | .one _ t => t.len + 1
  | .two _ _ t _ => t.len + 1
def wpTr (P : Program) (ops : Array Oper) (S : List Nat) (C : List (Nat × Value) → World → Prop) (Lq : List (Nat × Value) → Act → Prop) : OT → List (Nat × Value) → Act → Prop
  | .done, s, a => Lq s a
  | .one i t, s, a => fOp P ops S C i (wpTr P ops S C Lq t) s a
  | .two i j t u, s, a => fOp P ops S C i (wpTr P ops S C Lq t) s a ∧ fOp P ops S C j (wpTr P ops S C Lq u) s a
def treeB (md : Region.Mode) (ops : Array Oper) (S : List Nat) (n g : Nat) : OT → Array Bool → Bool
  | .done, listed => Region.seqB md ops g n listed
  | .one i t, listed => decide (i < n) && (Region.ready md ops listed).contains i && (if S.contains i then Region.ready md ops listed == [i] else Region.free md ops listed i) && treeB md ops S n g t (listed.setIfInBounds i true)
  | .two i j t u, listed => decide (i < n) && decide (j < n) && (Region.ready md ops listed == [i, j]) && decide (u.len = t.len) && treeB md ops S n g t (listed.setIfInBounds i true) && treeB md ops S n g u (listed.setIfInBounds j true)
theorem headF_tree {P : Program} {ops : Array Oper} {md : Region.Mode} {S : List Nat} {C : List (Nat × Value) → World → Prop} {n g : Nat} {Lq : List (Nat × Value) → Act → Prop} (hsel : Region.noSelect ops = true) (hs : Region.sinkB md ops n = true) (hc : Region.chainB md ops n = true) (hn : n < ops.size) (t : OT) :
    ∀ (listed : Array Bool) (s : List (Nat × Value)) (a : Act), HeadInv md ops n listed → treeB md ops S n g t listed = true → wpTr P ops S C Lq t s a →
    headF P md ops S C n (fun listed' s' a' => Region.seqB md ops g n listed' = true ∧ Lq s' a') t.len listed s a := by
  induction t with
  | done => intro listed s a _ hB h; exact ⟨hB, h⟩
  | one i r ih =>
    intro listed s a inv hB h
    simp only [treeB, Bool.and_eq_true, decide_eq_true_eq] at hB
    obtain ⟨⟨⟨hin, hrd⟩, hF⟩, hB⟩ := hB
    have hr : i ∈ Region.ready md ops listed := by simpa using hrd
    obtain ⟨_, oi, hi, _⟩ := mem_ready.1 hr
    have inv' := inv.set hr hin
    by_cases hSi : S.contains i = true
    · rw [if_pos hSi] at hF
      have hrd1 : Region.ready md ops listed = [i] := by simpa using hF
      refine ⟨by rw [hrd1]; simp, fun j hj => ?_⟩
      rw [hrd1] at hj
      obtain rfl : j = i := by simpa using hj
      exact ⟨hin, fOp_mono (fun s' a' h' => ih _ s' a' inv' hB h') h⟩
    · rw [if_neg hSi] at hF
      have hsf : S.contains i = false := by simpa using hSi
      obtain ⟨v, hy, hK⟩ := yf_of_fOp hi hsf h
      exact headF_first hi hsf (Region.noSelect_spec hsel) hs hc hn hin (fun listed' s' a' hL => seqB_ready hL.1) r.len listed s a inv (Region.free_spec hi hF) hr hy (ih _ _ _ inv' hB hK)
  | two i j t u iht ihu =>
    intro listed s a inv hB h
    simp only [treeB, Bool.and_eq_true, decide_eq_true_eq] at hB
    obtain ⟨⟨⟨⟨⟨hin, hjn⟩, hrd⟩, hlen⟩, hB1⟩, hB2⟩ := hB
    have hrd1 : Region.ready md ops listed = [i, j] := by simpa using hrd
    have hri : i ∈ Region.ready md ops listed := by rw [hrd1]; simp
    have hrj : j ∈ Region.ready md ops listed := by rw [hrd1]; simp
    refine ⟨by rw [hrd1]; simp, fun k hk => ?_⟩
    rw [hrd1] at hk
    simp only [List.mem_cons, List.not_mem_nil, or_false] at hk
    rcases hk with rfl | rfl
    · exact ⟨hin, fOp_mono (fun s' a' h' => iht _ s' a' (inv.set hri hin) hB1 h') h.1⟩
    · refine ⟨hjn, fOp_mono (fun s' a' h' => ?_) h.2⟩
      have := ihu _ s' a' (inv.set hrj hjn) hB2 h'
      rwa [hlen] at this
def treeTailB (md : Region.Mode) (ops : Array Oper) (S : List Nat) (n : Nat) (t : OT) : Bool :=
  Region.noSelect ops && decide (n < ops.size) && Region.sinkB md ops n && Region.chainB md ops n && decide (t.len = n) && treeB md ops S n (ops.size - n) t (Array.replicate ops.size false)
theorem wp_region_tree {P : Program} {id : Nat} {Q : Exit → Act → World → Prop} {a : Act} {w : World} {l : List Oper} (S : List Nat) (C : List (Nat × Value) → World → Prop) (n : Nat) (t : OT) (hm : P.follows .mixedOrders = true) (hB : treeTailB .any l.toArray S n t = true) (hC : C [] w.drew)
    (h : wpTr P l.toArray S C (fun s a' => ∀ w', C s w' → wpList P l.toArray Q (l.drop n) a' w') t [] a) : (Code.region id l.toArray true).wp P Q a w := by
  simp only [treeTailB, Bool.and_eq_true, decide_eq_true_eq] at hB
  obtain ⟨⟨⟨⟨⟨hsel, hn⟩, hs⟩, hc⟩, hlen⟩, hord⟩ := hB
  have hdl : (l.drop n).length = l.toArray.size - n := by simp
  have inv0 : HeadInv .any l.toArray n (Array.replicate l.toArray.size false) :=
    ⟨by simp, fun j oj _ hl => (by rw [getD_replicate_false] at hl; cases hl), fun t _ ht => getD_in (by simpa using ht) (getD_replicate_false _ _)⟩
  have H := headF_tree (md := .any) (g := l.toArray.size - n) hsel hs hc hn t _ [] a inv0 hord h
  refine wp_region_any hm ?_
  have := headF_any (Q' := Q) (g := l.toArray.size - n) (fun listed s a' w' hw hL => by
    have := wpAny_of_seq (md := .any) (Q' := Q) (l.drop n) n listed a' w' (fun j => by simp [List.getElem?_drop]) (by rw [hdl]; exact hL.1) (hL.2 w' hw)
    rwa [hdl] at this) _ _ _ _ _ hC H
  rw [hlen, show n + (l.toArray.size - n) = l.toArray.size by omega] at this
  exact this
theorem tree_done {P : Program} {ops : Array Oper} {S : List Nat} {C : List (Nat × Value) → World → Prop} {Lq : List (Nat × Value) → Act → Prop} {s : List (Nat × Value)} {a : Act} (h : Lq s a) : wpTr P ops S C Lq .done s a := h
theorem tree_read {P : Program} {ops : Array Oper} {S : List Nat} {C : List (Nat × Value) → World → Prop} {Lq : List (Nat × Value) → Act → Prop} {i : Nat} {o : Oper} {r : OT} {s : List (Nat × Value)} {a : Act} (hi : ops[i]? = some o) (hw : Region.wanted o (yielded ops a.tmps) = true) (hs : S.contains i = false)
    (h : ∃ v, (∀ s' W, C (s ++ s') W → YS P o a (C (s ++ s')) W v) ∧ ∀ K : Act → Prop, (∀ a, wpTr P ops S C Lq r s a → K a) → K (a.put o.dst v)) : wpTr P ops S C Lq (.one i r) s a := by
  obtain ⟨v, h1, h2⟩ := h
  unfold wpTr fOp
  simp only [hi]
  rw [if_pos hw, if_neg (by rw [hs]; exact Bool.false_ne_true)]
  exact ⟨v, h1, h2 _ (fun _ h => h)⟩
theorem fop_turn {P : Program} {ops : Array Oper} {S : List Nat} {C : List (Nat × Value) → World → Prop} {Lq : List (Nat × Value) → Act → Prop} {i : Nat} {o : Oper} {r : OT} {s : List (Nat × Value)} {a : Act} (hi : ops[i]? = some o) (hw : Region.wanted o (yielded ops a.tmps) = true) (hs : S.contains i = true)
    (h1 : ∀ W, C s W → YV P o a (fun v => C (s ++ [(i, v)])) W) (h2 : ∀ v, (∃ W', C (s ++ [(i, v)]) W') → ∀ K : Act → Prop, (∀ a, wpTr P ops S C Lq r (s ++ [(i, v)]) a → K a) → K (a.put o.dst v)) : fOp P ops S C i (wpTr P ops S C Lq r) s a := by
  unfold fOp
  simp only [hi]
  rw [if_pos hw, if_pos hs]
  exact ⟨h1, fun v hv => h2 v hv _ (fun _ h => h)⟩
theorem tree_turn {P : Program} {ops : Array Oper} {S : List Nat} {C : List (Nat × Value) → World → Prop} {Lq : List (Nat × Value) → Act → Prop} {i : Nat} {o : Oper} {r : OT} {s : List (Nat × Value)} {a : Act} (hi : ops[i]? = some o) (hw : Region.wanted o (yielded ops a.tmps) = true) (hs : S.contains i = true)
    (h1 : ∀ W, C s W → YV P o a (fun v => C (s ++ [(i, v)])) W) (h2 : ∀ v, (∃ W', C (s ++ [(i, v)]) W') → ∀ K : Act → Prop, (∀ a, wpTr P ops S C Lq r (s ++ [(i, v)]) a → K a) → K (a.put o.dst v)) : wpTr P ops S C Lq (.one i r) s a := fop_turn hi hw hs h1 h2
theorem tree_two {P : Program} {ops : Array Oper} {S : List Nat} {C : List (Nat × Value) → World → Prop} {Lq : List (Nat × Value) → Act → Prop} {i j : Nat} {t u : OT} {s : List (Nat × Value)} {a : Act} (h1 : fOp P ops S C i (wpTr P ops S C Lq t) s a) (h2 : fOp P ops S C j (wpTr P ops S C Lq u) s a) : wpTr P ops S C Lq (.two i j t u) s a := ⟨h1, h2⟩
end Go.Proofs.YtjiblajnfnmjnaaGreatDoor
namespace Go.Proofs.YtjiblajnfnmjnaaGreatDoor.C
open Go.RowKit Go Go.Sort
def mkL : Col := ⟨⟨#[]⟩, -7, false⟩
def ML (W : World) (base : Nat) (l : List Col) (v : Value) : Prop := ∃ g cap cur, v = .slice (some ⟨g, 0, none⟩) l.length cap ∧ base ≤ g ∧ l.length + 1 ≤ cap ∧ W.heap[g]? = some (.cells cur 43 (0, 0)) ∧ cur.toList.take ((l.length + 1) * 3) = ccl (l ++ [mkL])
def mkX : Obj := .cells #[.string ⟨#[]⟩, .int .i64 (-7), .bool false] 43
def OY (b0 n : Nat) (l : List Col) (W : World) (y : Value) : Prop := (∃ vo vc, y = .slice vo n vc) ∧ W.ownsRow b0 43 3 y n (ccl l)
def MZ (b0 : Nat) (W : World) (z : Value) : Prop := ∃ g, z = .slice (some ⟨g, 0, none⟩) 1 1 ∧ b0 ≤ g ∧ W.heap[g]? = some mkX
def FZ (b0 n : Nat) (l : List Col) (W : World) (u : Value) : Prop := ∃ g cap, u = .slice (some ⟨g, 0, none⟩) (n + 1) cap ∧ n + 1 ≤ cap ∧ b0 ≤ g ∧ ∃ cur, W.heap[g]? = some (.cells cur 43 (0, 0)) ∧ cur.toList.take ((n + 1) * 3) = ccl (l ++ [mkL])
theorem lentTable_nil (t : Tbl) (w : World) : Calls Tryz.prog 43 #[tA t.id t.ver t.nm (.slice none 0 0) t.key] w fun x w' => x = .returned (tA t.id t.ver t.nm (.slice none 0 0) t.key) ∧ Tch (fun _ => False) w w' := by
  go_enter Tryz.func43, Tryz.ntmps43
  go_wp2_with fail
  have hrs : Tryz.f43.results = #[.cell 2 29] := by kernel_rfl
  refine bodyPost_ret (v := tA t.id t.ver t.nm (.slice none 0 0) t.key) (by simp only [results, hrs]; go_simp) rfl ⟨rfl, ?_⟩
  exact (Tch.alloc _ _ _).allocR _
theorem lentTable_any (t : Tbl) (ad : Addr) (c : Nat) (w : World) (hcells : ∀ j u, (ccl t.cols)[j]? = some u → w.cell? (ad.add j) = some u) (hlen : t.cols.length * 32 ≤ 140737488351232) :
    Calls Tryz.prog 43 #[tA t.id t.ver t.nm (.slice (some ad) t.cols.length c) t.key] w fun x w' => (∃ v, x = .returned (tA t.id t.ver t.nm v t.key) ∧ ML w' w.heap.size t.cols v) ∧ Tch (fun _ => False) w w' := by
  obtain ⟨i0, hi, hz0, hz1, hz2⟩ := info_parts info_col
  obtain ⟨l, hl⟩ : ∃ l, l = t.cols := ⟨_, rfl⟩
  rw [← hl] at hcells hlen ⊢
  obtain ⟨n, hn⟩ : ∃ n, n = l.length := ⟨_, rfl⟩
  rw [← hn]
  have HN : Hid (n = l.length) := hn
  have hnn : n ≤ 4398046511104 := by omega
  have HL : Hid (n * 32 ≤ 140737488351232) := by show _ ≤ _; rw [hn]; exact hlen
  obtain ⟨wB, hwB⟩ : ∃ wB, wB = (w.alloc (.cells #[.int .i64 t.id, .int .i64 t.ver, .string t.nm, .slice (some ad) n c, .int .i64 t.key] 29)).alloc (.cells #[.int .i64 0, .int .i64 0, .string ⟨#[]⟩, .slice none 0 0, .int .i64 0] 29) := ⟨_, rfl⟩
  obtain ⟨b0, hb0⟩ : ∃ b0, b0 = wB.heap.size := ⟨_, rfl⟩
  have zB : w.heap.size + 2 = b0 := by rw [hb0, hwB, World.size_alloc, World.size_alloc]
  have tB : Tch (fun _ => False) w wB := by rw [hwB]; exact (Tch.alloc _ _ _).allocR _
  have bx : wB.heap[w.heap.size]? = some (.cells #[.int .i64 t.id, .int .i64 t.ver, .string t.nm, .slice (some ad) n c, .int .i64 t.key] 29 (0, 0)) := by
    rw [hwB]
    exact ((Tch.alloc (fun _ => False) _ _).block _ (by rw [World.size_alloc]; omega) (fun h => h)).trans (heap_new w _)
  have br : wB.heap[w.heap.size + 1]? = some (.cells #[.int .i64 0, .int .i64 0, .string ⟨#[]⟩, .slice none 0 0, .int .i64 0] 29 (0, 0)) := by
    rw [hwB]
    have e := World.size_alloc w (.cells #[.int .i64 t.id, .int .i64 t.ver, .string t.nm, .slice (some ad) n c, .int .i64 t.key] 29)
    rw [← e]
    exact heap_new _ _
  have HNw : Hid (∀ W, Tch (fun i => b0 ≤ i) wB W → ∀ j u, (ccl l)[j]? = some u → W.cell? (ad.add j) = some u) := fun W tW j u hu => by
    have h1 := hcells j u hu
    have h2 := cell_lt h1
    have h3 : wB.cell? (ad.add j) = some u := by rw [tB.cell h2 (fun h => h)]; exact h1
    rw [tW.cell (cell_lt h3) (by omega)]; exact h3
  have HBK : Hid (∀ W, Tch (fun i => b0 ≤ i) wB W → W.heap[w.heap.size]? = some (.cells #[.int .i64 t.id, .int .i64 t.ver, .string t.nm, .slice (some ad) n c, .int .i64 t.key] 29 (0, 0)) ∧ W.heap[w.heap.size + 1]? = some (.cells #[.int .i64 0, .int .i64 0, .string ⟨#[]⟩, .slice none 0 0, .int .i64 0] 29 (0, 0))) := fun W tW =>
    ⟨(tW.block _ (blk_lt bx) (by omega)).trans bx, (tW.block _ (blk_lt br) (by omega)).trans br⟩
  have zb : b0 ≤ wB.heap.size := Nat.le_of_eq hb0
  obtain ⟨C, hC⟩ : ∃ C : List (Nat × Value) → World → Prop, C = fun s W => Tch (fun i => b0 ≤ i) wB W ∧ (s = [] ∨ (∃ y, s = [(2, y)] ∧ OY b0 n l W y) ∨ (∃ z, s = [(4, z)] ∧ MZ b0 W z) ∨ (∃ y z, (s = [(2, y), (4, z)] ∨ s = [(4, z), (2, y)]) ∧ OY b0 n l W y ∧ MZ b0 W z) ∨ (∃ p q u, s = [p, q, (5, u)] ∧ FZ b0 n l W u)) := ⟨_, rfl⟩
  have h0' : C [] wB.drew := by rw [hC]; exact ⟨(Tch.refl _ _).drew, Or.inl rfl⟩
  have hT : ∀ s W, C s W → Tch (fun i => b0 ≤ i) wB W := fun s W h => by rw [hC] at h; exact h.1
  have hK : ∀ s W, C s W → W.cell? ⟨w.heap.size, 3, none⟩ = some (.slice (some ad) n c) ∧ W.frozen? ⟨w.heap.size, 3, none⟩ = false := fun s W h => ⟨blk_cell (HBK.out W (hT s W h)).1 3, blk_frozen (HBK.out W (hT s W h)).1 3⟩
  have e2 : ∀ y W, C [(2, y)] W → OY b0 n l W y := fun y W h => by
    rw [hC] at h
    rcases h.2 with h | ⟨y', h, hy⟩ | ⟨z', h, hz⟩ | ⟨y', z', h, hy, hz⟩ | ⟨p, q, u, h, hu⟩
    · cases h
    · simp only [List.cons.injEq, Prod.mk.injEq, true_and, and_true] at h; subst h; exact hy
    · simp at h
    · simp at h
    · simp at h
  have e4 : ∀ z W, C [(4, z)] W → MZ b0 W z := fun z W h => by
    rw [hC] at h
    rcases h.2 with h | ⟨y', h, hy⟩ | ⟨z', h, hz⟩ | ⟨y', z', h, hy, hz⟩ | ⟨p, q, u, h, hu⟩
    · cases h
    · simp at h
    · simp only [List.cons.injEq, Prod.mk.injEq, true_and, and_true] at h; subst h; exact hz
    · simp at h
    · simp at h
  have e24 : ∀ y z W, C [(2, y), (4, z)] W → OY b0 n l W y ∧ MZ b0 W z := fun y z W h => by
    rw [hC] at h
    rcases h.2 with h | ⟨y', h, hy⟩ | ⟨z', h, hz⟩ | ⟨y', z', h | h, hy, hz⟩ | ⟨p, q, u, h, hu⟩
    · cases h
    · simp at h
    · simp at h
    · simp only [List.cons.injEq, Prod.mk.injEq, true_and, and_true] at h; obtain ⟨rfl, rfl⟩ := h; exact ⟨hy, hz⟩
    · simp at h
    · simp at h
  have e42 : ∀ y z W, C [(4, z), (2, y)] W → OY b0 n l W y ∧ MZ b0 W z := fun y z W h => by
    rw [hC] at h
    rcases h.2 with h | ⟨y', h, hy⟩ | ⟨z', h, hz⟩ | ⟨y', z', h | h, hy, hz⟩ | ⟨p, q, u, h, hu⟩
    · cases h
    · simp at h
    · simp at h
    · simp at h
    · simp only [List.cons.injEq, Prod.mk.injEq, true_and, and_true] at h; obtain ⟨rfl, rfl⟩ := h; exact ⟨hy, hz⟩
    · simp at h
  have e5 : ∀ p q u W, C [p, q, (5, u)] W → FZ b0 n l W u := fun p q u W h => by
    rw [hC] at h
    rcases h.2 with h | ⟨y', h, hy⟩ | ⟨z', h, hz⟩ | ⟨y', z', h, hy, hz⟩ | ⟨p', q', u', h, hu⟩
    · cases h
    · simp at h
    · simp at h
    · simp at h
    · simp only [List.cons.injEq, Prod.mk.injEq, true_and, and_true] at h; obtain ⟨_, _, rfl⟩ := h; exact hu
  have a2 : ∀ W, Tch (fun i => b0 ≤ i) wB W → ∃ y w', (Builtin.append_ #[22, 22] 22 #[.slice none 0 0, .slice (some ad) n c]).run Tryz.prog W = .ok y w' ∧ OY b0 n l w' y ∧ W.grownBy w' none ∧ Tch (fun i => b0 ≤ i) wB w' := fun W tW => by
    obtain ⟨y, w', hr, hown, hgr, _⟩ := run_append_own_at (P := Tryz.prog) W b0 22 22 43 i0 (.agg #[.string ⟨#[]⟩, .int .i64 0, .bool false]) 3 32 Tryz.underlying22 hi hz0 hz1 hz2 rfl (by decide) (.slice none 0 0) 0 [] (World.ownsRow_nil _ _ _ _) ad n c (ccl l) (by rw [ccl_len, HN.out]) (HNw.out W tW) (ccl_one l) (by have := HL.out; unfold maxLen; omega) (by have := HL.out; omega) (by have := tW.size; omega)
    rw [Nat.zero_add, List.nil_append] at hown
    exact ⟨y, w', hr, ⟨row_slice hown, hown⟩, hgr, tW.trans' (grown_tch2 (b := b0) hgr (fun g h => by cases h))⟩
  have h2 : ∀ W, C [] W → ∃ y w', (Builtin.append_ #[22, 22] 22 #[.slice none 0 0, .slice (some ad) n c]).run Tryz.prog W = .ok y w' ∧ C [(2, y)] w' := fun W h => by
    obtain ⟨y, w', hr, ho, _, t⟩ := a2 W (hT _ _ h)
    refine ⟨y, w', hr, ?_⟩
    rw [hC]; exact ⟨t, Or.inr (Or.inl ⟨y, rfl, ho⟩)⟩
  have h2' : ∀ z W, C [(4, z)] W → ∃ y w', (Builtin.append_ #[22, 22] 22 #[.slice none 0 0, .slice (some ad) n c]).run Tryz.prog W = .ok y w' ∧ C [(4, z), (2, y)] w' := fun z W h => by
    obtain ⟨y, w', hr, ho, hgr, t⟩ := a2 W (hT _ _ h)
    obtain ⟨g, rfl, hg, hb⟩ := e4 z W h
    refine ⟨y, w', hr, ?_⟩
    rw [hC]; exact ⟨t, Or.inr (Or.inr (Or.inr (Or.inl ⟨y, _, Or.inr rfl, ho, g, rfl, hg, by rw [hgr.block g (blk_lt hb) (by simp)]; exact hb⟩)))⟩
  have h4 : ∀ W, C [] W → C [(4, .slice (some ⟨W.heap.size, 0, none⟩) 1 1)] (W.alloc (.cells #[.string ⟨#[]⟩, .int .i64 (-7), .bool false] 43)) := fun W h => by
    have t := hT _ _ h
    rw [hC]; exact ⟨t.allocR _, Or.inr (Or.inr (Or.inl ⟨_, rfl, W.heap.size, rfl, by have := t.size; omega, alloc_new W mkX⟩))⟩
  have h4' : ∀ y W, C [(2, y)] W → C [(2, y), (4, .slice (some ⟨W.heap.size, 0, none⟩) 1 1)] (W.alloc (.cells #[.string ⟨#[]⟩, .int .i64 (-7), .bool false] 43)) := fun y W h => by
    have t := hT _ _ h
    have ho := e2 y W h
    rw [hC]; exact ⟨t.allocR _, Or.inr (Or.inr (Or.inr (Or.inl ⟨y, _, Or.inl rfl, ⟨ho.1, ho.2.alloc _⟩, W.heap.size, rfl, by have := t.size; omega, alloc_new W mkX⟩)))⟩
  have h5 : ∀ p q y z W, Tch (fun i => b0 ≤ i) wB W → OY b0 n l W y → MZ b0 W z → ∃ u w', (Builtin.append_ #[22, 22] 22 #[y, z]).run Tryz.prog W = .ok u w' ∧ C [p, q, (5, u)] w' := fun p q y z W tW ho hm => by
    obtain ⟨g, rfl, hg, hb⟩ := hm
    obtain ⟨u, w', hr, hown, hgr, _⟩ := run_append_own_at (P := Tryz.prog) W b0 22 22 43 i0 (.agg #[.string ⟨#[]⟩, .int .i64 0, .bool false]) 3 32 Tryz.underlying22 hi hz0 hz1 hz2 rfl (by decide) y n (ccl l) ho.2 ⟨g, 0, none⟩ 1 1 (ccl [mkL]) rfl (World.news_of_block hb) (ccl_one _) (by have := HL.out; unfold maxLen; omega) (by have := HL.out; omega) (by have := tW.size; omega)
    obtain ⟨g', cap, cur, rfl, h1, h2, _, h4, h6⟩ := own_some hown (by omega)
    refine ⟨_, w', hr, ?_⟩
    rw [hC]
    refine ⟨tW.trans' (grown_tch2 (b := b0) hgr (fun g h => row_ge ho.2 h)), Or.inr (Or.inr (Or.inr (Or.inr ⟨p, q, _, rfl, g', cap, rfl, h2, h1, cur, h4, ?_⟩)))⟩
    rw [h6, ccl_snoc]; rfl
  have HEND : Hid (∀ p q g cap W, C [p, q, (5, .slice (some ⟨g, 0, none⟩) (n + 1) cap)] W → n + 1 ≤ cap ∧ b0 ≤ g ∧ (∃ cur, W.heap[g]? = some (.cells cur 43 (0, 0)) ∧ cur.toList.take ((n + 1) * 3) = ccl (l ++ [mkL])) ∧ Tch (fun i => b0 ≤ i) wB W) := fun p q g cap W h => by
    have t := hT _ _ h
    obtain ⟨g', cap', e, h1, h2, h3⟩ := e5 _ _ _ _ h
    simp only [Value.slice.injEq, Option.some.injEq, Addr.mk.injEq, true_and, and_true] at e
    obtain ⟨rfl, rfl⟩ := e
    exact ⟨h1, h2, h3, t⟩
  have HT : Hid (∀ s W, C s W → Tch (fun i => b0 ≤ i) wB W) := hT
  have HWB : Hid (wB = (w.alloc (.cells #[.int .i64 t.id, .int .i64 t.ver, .string t.nm, .slice (some ad) n c, .int .i64 t.key] 29)).alloc (.cells #[.int .i64 0, .int .i64 0, .string ⟨#[]⟩, .slice none 0 0, .int .i64 0] 29)) := hwB
  have HTB : Hid (Tch (fun _ => False) w wB) := tB
  have H5 : Hid _ := h5
  clear hcells hlen hn hl hwB tB bx br hb0 hC hT a2 hz0 hz1 hz2 hi zb h5
  go_enter Tryz.func43, Tryz.ntmps43
  go_wp2_with fail
  rw [← HWB.out]
  refine wp_region_tree [2, 4, 5] C 10 (.one 0 (.one 1 (.one 3 (.one 6 (.one 7 (.one 8 (.two 2 4 (.one 4 (.one 5 (.one 9 .done))) (.one 2 (.one 5 (.one 9 .done)))))))))) (by kernel_rfl) (by kernel_rfl) h0' ?_
  clear h0'
  refine tree_read rfl (by go_simp) (by rfl) ?_
  apply Exists.intro
  refine ⟨fun s' W hW b K Q hK' => ?_, fun K hK' => ?_⟩
  · obtain ⟨y3, f3⟩ := hK _ W hW
    go_simp
    exact hK' W hW
  go_simp
  refine hK' _ ?_
  clear hK' K
  refine tree_read rfl (by go_simp) (by rfl) ?_
  apply Exists.intro
  refine ⟨fun s' W hW b K Q hK' => ?_, fun K hK' => ?_⟩
  · obtain ⟨y3, f3⟩ := hK _ W hW
    go_simp
    exact hK' W hW
  go_simp
  refine hK' _ ?_
  clear hK' K
  refine tree_read rfl (by go_simp) (by rfl) ?_
  apply Exists.intro
  refine ⟨fun s' W hW b K Q hK' => ?_, fun K hK' => ?_⟩
  · obtain ⟨y3, f3⟩ := hK _ W hW
    go_simp
    exact hK' W hW
  go_simp
  refine hK' _ ?_
  clear hK' K
  refine tree_read rfl (by go_simp) (by rfl) ?_
  apply Exists.intro
  refine ⟨fun s' W hW b K Q hK' => ?_, fun K hK' => ?_⟩
  · obtain ⟨y3, f3⟩ := hK _ W hW
    go_simp
    exact hK' W hW
  go_simp
  refine hK' _ ?_
  clear hK' K
  refine tree_read rfl (by go_simp) (by rfl) ?_
  apply Exists.intro
  refine ⟨fun s' W hW b K Q hK' => ?_, fun K hK' => ?_⟩
  · obtain ⟨y3, f3⟩ := hK _ W hW
    go_simp
    exact hK' W hW
  go_simp
  refine hK' _ ?_
  clear hK' K
  refine tree_read rfl (by go_simp) (by rfl) ?_
  apply Exists.intro
  refine ⟨fun s' W hW b K Q hK' => ?_, fun K hK' => ?_⟩
  · obtain ⟨y3, f3⟩ := hK _ W hW
    go_simp
    exact hK' W hW
  go_simp
  refine hK' _ ?_
  clear hK' K
  refine tree_two (fop_turn rfl (by go_simp) (by rfl) (fun W hW => ?_) (fun y hy K hK' => ?_)) (fop_turn rfl (by go_simp) (by rfl) (fun W hW b K Q hK' => ?_) (fun z hz K hK' => ?_))
  · obtain ⟨y, w', hr, h1⟩ := h2 W hW
    exact yv_append (.const (.slice none 0 0)) (.tmp 7) 22 rfl (.slice none 0 0) (.slice (some ad) n c) rfl rfl hr h1
  · clear hy
    go_simp
    refine hK' _ ?_
    clear hK' K
    refine tree_turn rfl (by go_simp) (by rfl) (fun W hW b K Q hK' => ?_) (fun z hz K hK' => ?_)
    · go_simp
      exact hK' _ _ (h4' y W hW)
    clear hz
    go_simp
    refine hK' _ ?_
    clear hK' K
    refine tree_turn rfl (by go_simp) (by rfl) (fun W hW => ?_) (fun u hu K hK' => ?_)
    · obtain ⟨ho, hm⟩ := e24 y z W hW
      obtain ⟨u, w', hr, h1⟩ := H5.out _ _ _ _ W (HT.out _ _ hW) ho hm
      exact yv_append (.tmp 8) (.tmp 10) 22 rfl y z rfl rfl hr h1
    obtain ⟨W5, hW5⟩ := hu
    obtain ⟨g, cap, rfl, hcap, -⟩ := e5 _ _ u W5 hW5
    have hcp : (n : Int) ≤ cap := by omega
    clear hW5 W5
    go_simp
    refine hK' _ ?_
    clear hK' K
    refine tree_read rfl (by go_simp) (by rfl) ?_
    apply Exists.intro
    refine ⟨fun s' W hW b K Q hK' => ?_, fun K hK' => ?_⟩
    · go_simp
      exact hK' W hW
    go_simp
    refine hK' _ ?_
    clear hK' K
    refine tree_done ?_
    intro W3 hw6
    simp only [List.drop_succ_cons, List.drop_zero]
    obtain ⟨kx, kr⟩ := HBK.out W3 (HT.out _ _ hw6)
    have y0 := blk_cell kx 0
    have y1 := blk_cell kx 1
    have y2 := blk_cell kx 2
    have y3 := blk_cell kx 3
    have y4 := blk_cell kx 4
    have f3 := blk_frozen kx 3
    have r0 := blk_cell kr 0
    have r1 := blk_cell kr 1
    have r2 := blk_cell kr 2
    have r3 := blk_cell kr 3
    have r4 := blk_cell kr 4
    have f0 := blk_frozen kr 0
    have f1 := blk_frozen kr 1
    have f2 := blk_frozen kr 2
    have f3' := blk_frozen kr 3
    have f4 := blk_frozen kr 4
    simp at y0 y1 y2 y3 y4 r0 r1 r2 r3 r4
    have HX : Hid _ := kx
    have HR : Hid _ := kr
    clear kx kr hK e2 e4 e24 e42 e5 h2 h2' h4 h4'
    go_wp2_with fail
    have hrs : Tryz.f43.results = #[.cell 2 29] := by kernel_rfl
    obtain ⟨_, hg', ⟨cur, hcur, htk⟩, tW⟩ := HEND.out _ _ _ _ W3 hw6
    refine bodyPost_ret (v := tA t.id t.ver t.nm (.slice (some ⟨g, 0, none⟩) n cap) t.key) (by simp only [results, hrs]; go_simp) rfl ⟨⟨_, rfl, ?_⟩, ?_⟩
    · refine ⟨g, cap, cur, by rw [HN.out], by omega, by have := HN.out; omega, ?_, by rw [← HN.out]; exact htk⟩
      have T6 := ((((((Tch.refl (fun i => i < b0) W3).setCellR ⟨w.heap.size, 3, none⟩ (.slice (some ⟨g, 0, none⟩) n cap) (by show w.heap.size < b0; omega)).setCellR ⟨w.heap.size + 1, 0, none⟩ (.int .i64 t.id) (by show w.heap.size + 1 < b0; omega)).setCellR ⟨w.heap.size + 1, 1, none⟩ (.int .i64 t.ver) (by show w.heap.size + 1 < b0; omega)).setCellR ⟨w.heap.size + 1, 2, none⟩ (.string t.nm) (by show w.heap.size + 1 < b0; omega)).setCellR ⟨w.heap.size + 1, 3, none⟩ (.slice (some ⟨g, 0, none⟩) n cap) (by show w.heap.size + 1 < b0; omega)).setCellR ⟨w.heap.size + 1, 4, none⟩ (.int .i64 t.key) (by show w.heap.size + 1 < b0; omega)
      exact (T6.block g (blk_lt hcur) (by omega)).trans hcur
    · have T3 : Tch (fun i => w.heap.size ≤ i) w W3 := (HTB.out.mono (fun _ _ h => h.elim)).trans' (tW.mono (fun i _ h => by omega))
      exact ge_new ((((((T3.setCellR ⟨w.heap.size, 3, none⟩ _ (Nat.le_refl _)).setCellR ⟨w.heap.size + 1, 0, none⟩ _ (Nat.le_succ _)).setCellR ⟨w.heap.size + 1, 1, none⟩ _ (Nat.le_succ _)).setCellR ⟨w.heap.size + 1, 2, none⟩ _ (Nat.le_succ _)).setCellR ⟨w.heap.size + 1, 3, none⟩ _ (Nat.le_succ _)).setCellR ⟨w.heap.size + 1, 4, none⟩ _ (Nat.le_succ _))
  · go_simp
    exact hK' _ _ (h4 W hW)
  · clear hz
    go_simp
    refine hK' _ ?_
    clear hK' K
    refine tree_turn rfl (by go_simp) (by rfl) (fun W hW => ?_) (fun y hy K hK' => ?_)
    · obtain ⟨y, w', hr, h1⟩ := h2' z W hW
      exact yv_append (.const (.slice none 0 0)) (.tmp 7) 22 rfl (.slice none 0 0) (.slice (some ad) n c) rfl rfl hr h1
    clear hy
    go_simp
    refine hK' _ ?_
    clear hK' K
    refine tree_turn rfl (by go_simp) (by rfl) (fun W hW => ?_) (fun u hu K hK' => ?_)
    · obtain ⟨ho, hm⟩ := e42 y z W hW
      obtain ⟨u, w', hr, h1⟩ := H5.out _ _ _ _ W (HT.out _ _ hW) ho hm
      exact yv_append (.tmp 8) (.tmp 10) 22 rfl y z rfl rfl hr h1
    obtain ⟨W5, hW5⟩ := hu
    obtain ⟨g, cap, rfl, hcap, -⟩ := e5 _ _ u W5 hW5
    have hcp : (n : Int) ≤ cap := by omega
    clear hW5 W5
    go_simp
    refine hK' _ ?_
    clear hK' K
    refine tree_read rfl (by go_simp) (by rfl) ?_
    apply Exists.intro
    refine ⟨fun s' W hW b K Q hK' => ?_, fun K hK' => ?_⟩
    · go_simp
      exact hK' W hW
    go_simp
    refine hK' _ ?_
    clear hK' K
    refine tree_done ?_
    intro W3 hw6
    simp only [List.drop_succ_cons, List.drop_zero]
    obtain ⟨kx, kr⟩ := HBK.out W3 (HT.out _ _ hw6)
    have y0 := blk_cell kx 0
    have y1 := blk_cell kx 1
    have y2 := blk_cell kx 2
    have y3 := blk_cell kx 3
    have y4 := blk_cell kx 4
    have f3 := blk_frozen kx 3
    have r0 := blk_cell kr 0
    have r1 := blk_cell kr 1
    have r2 := blk_cell kr 2
    have r3 := blk_cell kr 3
    have r4 := blk_cell kr 4
    have f0 := blk_frozen kr 0
    have f1 := blk_frozen kr 1
    have f2 := blk_frozen kr 2
    have f3' := blk_frozen kr 3
    have f4 := blk_frozen kr 4
    simp at y0 y1 y2 y3 y4 r0 r1 r2 r3 r4
    have HX : Hid _ := kx
    have HR : Hid _ := kr
    clear kx kr hK e2 e4 e24 e42 e5 h2 h2' h4 h4'
    go_wp2_with fail
    have hrs : Tryz.f43.results = #[.cell 2 29] := by kernel_rfl
    obtain ⟨_, hg', ⟨cur, hcur, htk⟩, tW⟩ := HEND.out _ _ _ _ W3 hw6
    refine bodyPost_ret (v := tA t.id t.ver t.nm (.slice (some ⟨g, 0, none⟩) n cap) t.key) (by simp only [results, hrs]; go_simp) rfl ⟨⟨_, rfl, ?_⟩, ?_⟩
    · refine ⟨g, cap, cur, by rw [HN.out], by omega, by have := HN.out; omega, ?_, by rw [← HN.out]; exact htk⟩
      have T6 := ((((((Tch.refl (fun i => i < b0) W3).setCellR ⟨w.heap.size, 3, none⟩ (.slice (some ⟨g, 0, none⟩) n cap) (by show w.heap.size < b0; omega)).setCellR ⟨w.heap.size + 1, 0, none⟩ (.int .i64 t.id) (by show w.heap.size + 1 < b0; omega)).setCellR ⟨w.heap.size + 1, 1, none⟩ (.int .i64 t.ver) (by show w.heap.size + 1 < b0; omega)).setCellR ⟨w.heap.size + 1, 2, none⟩ (.string t.nm) (by show w.heap.size + 1 < b0; omega)).setCellR ⟨w.heap.size + 1, 3, none⟩ (.slice (some ⟨g, 0, none⟩) n cap) (by show w.heap.size + 1 < b0; omega)).setCellR ⟨w.heap.size + 1, 4, none⟩ (.int .i64 t.key) (by show w.heap.size + 1 < b0; omega)
      exact (T6.block g (blk_lt hcur) (by omega)).trans hcur
    · have T3 : Tch (fun i => w.heap.size ≤ i) w W3 := (HTB.out.mono (fun _ _ h => h.elim)).trans' (tW.mono (fun i _ h => by omega))
      exact ge_new ((((((T3.setCellR ⟨w.heap.size, 3, none⟩ _ (Nat.le_refl _)).setCellR ⟨w.heap.size + 1, 0, none⟩ _ (Nat.le_succ _)).setCellR ⟨w.heap.size + 1, 1, none⟩ _ (Nat.le_succ _)).setCellR ⟨w.heap.size + 1, 2, none⟩ _ (Nat.le_succ _)).setCellR ⟨w.heap.size + 1, 3, none⟩ _ (Nat.le_succ _)).setCellR ⟨w.heap.size + 1, 4, none⟩ _ (Nat.le_succ _))
end Go.Proofs.YtjiblajnfnmjnaaGreatDoor.C
