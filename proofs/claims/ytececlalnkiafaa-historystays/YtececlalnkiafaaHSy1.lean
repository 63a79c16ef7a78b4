import Derived.Test.YtececlalnkiafaaHSy0
import Derived.Test.YtececlalnkiafaaHTrW
/- HistoryStays: the law's state. -/
namespace Go.Proofs.Ytececlalnkiafaa
open Go.RowKit Go
set_option maxRecDepth 100000

def wcl (ws : List (List Int)) : List Value := ws.flatMap (fun vs => vs.map encZ)
theorem wcl_snoc (ws : List (List Int)) (vs : List Int) : wcl (ws ++ [vs]) = wcl ws ++ vs.map encZ := by simp [wcl]
theorem wcl_len : ∀ ws : List (List Int), (∀ vs ∈ ws, vs.length = 4) → (wcl ws).length = ws.length * 4
  | [], _ => rfl
  | vs :: r, h => by
    have := wcl_len r (fun v hv => h v (.tail _ hv))
    have h2 := h vs (.head _)
    unfold wcl at this ⊢
    rw [List.flatMap_cons, List.length_append, List.length_map, List.length_cons, this, h2]
    omega
theorem wcl_get : ∀ (ws : List (List Int)) (i k : Nat) (vs : List Int) (x : Int), (∀ vs ∈ ws, vs.length = 4) → ws[i]? = some vs → k < 4 → vs[k]? = some x → (wcl ws)[i * 4 + k]? = some (.int .i64 x)
  | [], i, k, vs, x, _, h, _, _ => by simp at h
  | v :: r, 0, k, vs, x, hl, h, hk, hx => by
    simp at h
    subst h
    have h2 := hl v (.head _)
    unfold wcl
    rw [List.flatMap_cons, Nat.zero_mul, Nat.zero_add, List.getElem?_append_left (by rw [List.length_map]; omega), List.getElem?_map, hx]
    rfl
  | v :: r, i + 1, k, vs, x, hl, h, hk, hx => by
    have ih := wcl_get r i k vs x (fun v hv => hl v (.tail _ hv)) (by simpa using h) hk hx
    have h2 := hl v (.head _)
    unfold wcl at ih ⊢
    rw [List.flatMap_cons, List.getElem?_append_right (by rw [List.length_map]; omega), List.length_map, h2, show (i + 1) * 4 + k - 4 = i * 4 + k by omega]
    exact ih
def FS (w : World) (B : Nat) (v : Value) : Nat → Prop := fun g => g < w.heap.size ∨ g = B ∨ v.ownBlock = some g
theorem info4 : (Try.prog.info? 29).map (fun i => (i.zero, i.size, i.bytes)) = some (some (.agg #[.int .i64 0, .int .i64 0, .int .i64 0, .int .i64 0]), 4, 32) := by kernel_rfl
/-- The law's state: the history; the versions now; those of each position. -/
structure SS (w wr : World) (b B : Nat) (v : Value) (h : Hs) (ws : List (List Int)) (now : List Int) : Prop where
  hf : HF wr (FS w B v) b h
  bx : wr.heap[B]? = some (.cells (now.map encZ).toArray 29 (0, 0))
  row : wr.ownsRow w.heap.size 29 4 v ws.length (wcl ws)
  nb : v.ownBlock ≠ some B
  bw : w.heap.size ≤ B
  t : Tch (fun _ => False) w wr
theorem SS.no {w wr w' : World} {b B : Nat} {v : Value} {h : Hs} {ws : List (List Int)} {now : List Int} (S : SS w wr b B v h ws now) (t : Tch (fun _ => False) wr w') : SS w w' b B v h ws now :=
  ⟨S.hf.no t, (t.block B (blk_lt S.bx) (fun e => e)).trans S.bx, own_tch S.row t (fun _ _ e => e), S.nb, S.bw, S.t.trans' t⟩
theorem SS.fl {w wr : World} {b B : Nat} {v : Value} {h : Hs} {ws : List (List Int)} {now : List Int} (S : SS w wr b B v h ws now) : ∀ g, FS w B v g → g < wr.heap.size := fun g hg => by
  rcases hg with hg | hg | hg
  · exact Nat.lt_of_lt_of_le hg S.t.size
  · rw [hg]; exact blk_lt S.bx
  · exact (S.row.lt g hg).2
/-- A call of the history that turns nothing else. -/
theorem SS.turn {w wr w' : World} {b B : Nat} {v : Value} {h h' : Hs} {ws : List (List Int)} {now : List Int} (S : SS w wr b B v h ws now) (t : Tch (fun g => ¬ FS w B v g) wr w') (H : HF w' (FS w B v) b h') : SS w w' b B v h' ws now :=
  ⟨H, (t.block B (blk_lt S.bx) (fun e => e (.inr (.inl rfl)))).trans S.bx, own_tch S.row t (fun _ e e' => e' (.inr (.inr e))), S.nb, S.bw, S.t.trans t (fun _ hg e => e (.inl hg))⟩
theorem SS.set {w wr : World} {b B : Nat} {v : Value} {h : Hs} {ws : List (List Int)} {now : List Int} (S : SS w wr b B v h ws now) (p : Nat) (x : Int) : SS w (wr.setCell ⟨B, p, none⟩ (.int .i64 x)) b B v h ws (now.set p x) := by
  have t1 : Tch (fun g => g = B) wr (wr.setCell ⟨B, p, none⟩ (.int .i64 x)) := Tch.setCell (fun g => g = B) wr ⟨B, p, none⟩ _ rfl
  refine ⟨S.hf.tch t1 (fun g _ e => .inr (.inl e)), by rw [blk_set S.bx]; simp [List.map_set], own_tch S.row t1 (fun g e e' => S.nb (by have e2 : g = B := e'; rw [← e2]; exact e)), S.nb, S.bw, S.t.trans t1 (fun g hg e => by have := S.bw; have e2 : g = B := e; omega)⟩
/-- One more position. -/
theorem SS.app {w wr : World} {b B : Nat} {lo : Option Addr} {m lc : Nat} {h : Hs} {ws : List (List Int)} {n0 n1 n2 n3 : Int} (S : SS w wr b B (.slice lo m lc) h ws [n0, n1, n2, n3]) (hm : m = ws.length) (hb : m ≤ 1000000) :
    ∃ lo' lc' w', (Builtin.append_ #[28, 28] 28 #[.slice lo m lc, .slice (some ⟨wr.heap.size, 0, none⟩) 1 1]).run Try.prog (wr.alloc (.cells #[.int .i64 n0, .int .i64 n1, .int .i64 n2, .int .i64 n3] 29)) = .ok (.slice lo' (m + 1) lc') w' ∧ SS w w' b B (.slice lo' (m + 1) lc') h (ws ++ [[n0, n1, n2, n3]]) [n0, n1, n2, n3] := by
  obtain ⟨i0, hi0, hz0, hz1, hz2⟩ := info_parts info4
  obtain ⟨w1, hw1⟩ : ∃ w1, w1 = wr.alloc (.cells #[.int .i64 n0, .int .i64 n1, .int .i64 n2, .int .i64 n3] 29) := ⟨_, rfl⟩
  rw [← hw1]
  have t1 : Tch (fun _ => False) wr w1 := by rw [hw1]; exact Tch.alloc _ _ _
  have b1 : w1.heap[wr.heap.size]? = some (.cells #[.int .i64 n0, .int .i64 n1, .int .i64 n2, .int .i64 n3] 29 (0, 0)) := by rw [hw1]; exact alloc_new _ _
  have S1 := S.no t1
  have ho1 : w1.ownsRow w.heap.size 29 4 (.slice lo m lc) m (wcl ws) := by have := S1.row; rw [← hm] at this; exact this
  obtain ⟨v7, w7, hr7, hown7, hgr7, _, hat7⟩ := run_append_own_at (P := Try.prog) w1 w.heap.size 28 28 29 i0 _ 4 32 Try.underlying28 hi0 hz0 hz1 hz2 rfl (by decide) _ _ _ ho1 ⟨wr.heap.size, 0, none⟩ 1 1 [.int .i64 n0, .int .i64 n1, .int .i64 n2, .int .i64 n3] rfl (fun j u hu => by rw [add_plain, Nat.zero_add, blk_cell b1, ← Array.getElem?_toList]; exact hu) (fun u hu => by
      simp only [List.mem_cons, List.not_mem_nil, or_false] at hu
      rcases hu with rfl | rfl | rfl | rfl <;> rfl) (by unfold maxLen; omega) (by omega) S1.t.size
  obtain ⟨o7, c7, rfl⟩ := row_slice hown7
  have t7 : Tch (fun g => (Value.slice lo m lc).ownBlock = some g) w1 w7 := Tch.of_grown hgr7 (fun g e => e)
  refine ⟨o7, c7, w7, hr7, ?_⟩
  have hB1 := blk_lt S1.bx
  refine ⟨?_, (t7.block B hB1 S1.nb).trans S1.bx, by rw [List.length_append, List.length_singleton, ← hm, wcl_snoc]; exact hown7, fun e => ?_, S.bw, S1.t.trans t7 (fun g hg e => by have := (ho1.lt g e).1; omega)⟩
  · refine (((S1.hf.mono (F' := fun g => FS w B (.slice lo m lc) g ∨ w1.heap.size ≤ g) (fun g hg e => e.resolve_right (by omega))).tch t7 (fun _ _ e => .inl (.inr (.inr e)))).mono (fun g _ e => ?_))
    rcases e with e | e | e
    · exact .inl (.inl e)
    · exact .inl (.inr (.inl e))
    · rcases hat7 with ha | ha
      · rw [ha] at e; exact .inl (.inr (.inr e))
      · rw [ha] at e; injection e with e; exact .inr (by omega)
  · rcases hat7 with ha | ha
    · rw [ha] at e; exact S1.nb e
    · rw [ha] at e; injection e with e; omega
/-- An act: its kind, its number, its step. -/
structure Ac where
  k : Int
  i : Int
  s : Int
def acl (l : List Ac) : List Value := f3 (fun a => .int .i64 a.k) (fun a => .int .i64 a.i) (fun a => .int .i64 a.s) l
theorem ac_get {w wr : World} {a : Option Addr} {L : List Ac} (h : SL w a (acl L)) (t : Tch (fun _ => False) w wr) {k : Nat} {x : Ac} (hk : L[k]? = some x) : ∃ g o, a = some ⟨g, o, none⟩ ∧ wr.cell? ⟨g, o + k * 3, none⟩ = some (.int .i64 x.k) ∧ wr.cell? ⟨g, o + k * 3 + 1, none⟩ = some (.int .i64 x.i) ∧ wr.cell? ⟨g, o + k * 3 + 2, none⟩ = some (.int .i64 x.s) := by
  obtain ⟨hkl, hkx⟩ := List.getElem?_eq_some_iff.1 hk
  obtain ⟨g, o, e, ha⟩ := h (f3_nil _ _ _ (by rintro rfl; simp at hkl))
  obtain ⟨e0, e1, e2⟩ := f3_get (fun a : Ac => Value.int .i64 a.k) (fun a => .int .i64 a.i) (fun a => .int .i64 a.s) L k hkl
  rw [hkx] at e0 e1 e2
  have c0 := ha _ _ e0
  have c1 := ha _ _ e1
  have c2 := ha _ _ e2
  rw [← Nat.add_assoc] at c1 c2
  exact ⟨g, o, e, (t.cell (p := ⟨g, o + k * 3, none⟩) (cell_lt c0) (fun e => e)).trans c0, (t.cell (p := ⟨g, o + k * 3 + 1, none⟩) (cell_lt c1) (fun e => e)).trans c1, (t.cell (p := ⟨g, o + k * 3 + 2, none⟩) (cell_lt c2) (fun e => e)).trans c2⟩
/-- The law's state between the acts. -/
structure S1 (w wr : World) (b B : Nat) (v : Value) (i : Nat) (h : Hs) (ver : Nat) (ws : List (List Int)) (n0 n1 n2 n3 : Int) : Prop where
  ss : SS w wr b B v h ws [n0, n1, n2, n3]
  si : SI h ver ws
  now : ws.getLast? = some [n0, n1, n2, n3]
  vi : ver ≤ i
  T : h.T ≤ i
  L : ws.length ≤ 1 + 9 * i
theorem tvs_at {vs : List Int} {k : Nat} {v : Int} (hk : vs[k]? = some v) (hv : v ≠ 0) : (tvs 0 vs)[(tvs 0 (vs.take k)).length]? = some (tabT ((k : Int) + 1) v) ∧ (tvs 0 (vs.take (k + 1))).length = (tvs 0 (vs.take k)).length + 1 := by
  obtain ⟨hkl, hkx⟩ := List.getElem?_eq_some_iff.1 hk
  have hlen : (vs.take k).length = k := by rw [List.length_take]; omega
  have e1 : vs = vs.take k ++ v :: vs.drop (k + 1) := by
    rw [← hkx, List.getElem_cons_drop, List.take_append_drop]
  have e2 : tvs 0 vs = tvs 0 (vs.take k) ++ tvs k (v :: vs.drop (k + 1)) := by
    have h9 := tvs_append 0 (vs.take k) (v :: vs.drop (k + 1))
    rw [← e1, hlen, Nat.zero_add] at h9
    exact h9
  have e3 : tvs k (v :: vs.drop (k + 1)) = tabT ((k : Int) + 1) v :: tvs (k + 1) (vs.drop (k + 1)) := if_neg hv
  refine ⟨by rw [e2, e3]; simp, ?_⟩
  rw [List.take_add_one, hk]
  have h9 := tvs_append 0 (vs.take k) [v]
  rw [hlen, Nat.zero_add] at h9
  have e4 : tvs k [v] = [tabT ((k : Int) + 1) v] := if_neg hv
  rw [e4] at h9
  show (tvs 0 (vs.take k ++ [v])).length = _
  rw [h9]
  simp
theorem tvs_skip {vs : List Int} {k : Nat} (hk : vs[k]? = some 0) : (tvs 0 (vs.take (k + 1))).length = (tvs 0 (vs.take k)).length := by
  obtain ⟨hkl, hkx⟩ := List.getElem?_eq_some_iff.1 hk
  have hlen : (vs.take k).length = k := by rw [List.length_take]; omega
  rw [List.take_add_one, hk]
  have h9 := tvs_append 0 (vs.take k) [0]
  rw [hlen, Nat.zero_add] at h9
  have e4 : tvs k [(0 : Int)] = [] := rfl
  rw [e4, List.append_nil] at h9
  show (tvs 0 (vs.take k ++ [0])).length = _
  rw [h9]
/-- The versions at a position from the beginning on. -/
theorem S1.vs {w wr : World} {b B : Nat} {v : Value} {i : Nat} {h : Hs} {ver : Nat} {ws : List (List Int)} {n0 n1 n2 n3 : Int} (S : S1 w wr b B v i h ver ws n0 n1 n2 n3) {x : Int} (hx : h.b ≤ x) {ix : Nat} (hix : (ix : Int) = min x h.l - 10) : ws[ix]? = some [toldV h x 0, toldV h x 1, toldV h x 2, toldV h x 3] ∧ ix < ws.length := by
  have hl := S.si.l
  have hne := S.si.ne
  have hb1 := S.si.b1
  have hb2 := S.si.b2
  have hi : ix < ws.length := by omega
  refine ⟨?_, hi⟩
  obtain ⟨vs, hvs⟩ : ∃ vs, ws[ix]? = some vs := ⟨_, List.getElem?_eq_getElem hi⟩
  have ht := fun k hk => S.si.told x hx k hk vs (by rw [show (min x h.l - 10).toNat = ix by omega]; exact hvs)
  have hlen : vs.length = 4 := S.si.len vs (List.mem_of_getElem? hvs)
  rw [hvs]
  congr 1
  apply List.ext_getElem?
  intro k
  rcases Nat.lt_or_ge k 4 with h1 | h1
  · rw [ht k h1]
    have hc : k = 0 ∨ k = 1 ∨ k = 2 ∨ k = 3 := by omega
    rcases hc with rfl | rfl | rfl | rfl <;> rfl
  · rw [List.getElem?_eq_none (by omega), List.getElem?_eq_none (by simpa using h1)]
theorem SS.was {w wr : World} {b B : Nat} {lo : Option Addr} {m lc : Nat} {h : Hs} {ws : List (List Int)} {now : List Int} (S : SS w wr b B (.slice lo m lc) h ws now) (hm : m = ws.length) (hl : ∀ vs ∈ ws, vs.length = 4) (h1 : 1 ≤ m) : ∃ g, lo = some ⟨g, 0, none⟩ ∧ ∀ W, Tch (fun _ => False) wr W → ∀ ix vs k x, ws[ix]? = some vs → k < 4 → vs[k]? = some x → W.cell? ⟨g, ix * 4 + k, none⟩ = some (.int .i64 x) := by
  have ho : wr.ownsRow w.heap.size 29 4 (.slice lo m lc) m (wcl ws) := by have := S.row; rw [← hm] at this; exact this
  obtain ⟨g, e, _, ha⟩ := own_at ho (by omega)
  refine ⟨g, e, fun W tW ix vs k x hix hk hx => ?_⟩
  have := ha (ix * 4 + k) _ (wcl_get ws ix k vs x hl hix hk hx)
  rw [Nat.zero_add] at this
  exact (tW.cell (p := ⟨g, ix * 4 + k, none⟩) (cell_lt this) (fun e => e)).trans this
/-- List, told of the law's tables. -/
theorem S1.list {w wr : World} {b B : Nat} {v : Value} {i : Nat} {h : Hs} {ver : Nat} {ws : List (List Int)} {n0 n1 n2 n3 : Int} (S : S1 w wr b B v i h ver ws n0 n1 n2 n3) (hi : i ≤ 60) {W : World} (tW : Tch (fun _ => False) wr W) {x : Int} (hx : h.b ≤ x) :
    Calls Try.prog 14 #[.pointer (some ⟨b, 0, none⟩), .int .i64 x] W fun r w' => (∃ lo m lc, r = .returned (.tuple #[.slice lo m lc, .int .i64 0]) ∧ m = (tvs 0 [toldV h x 0, toldV h x 1, toldV h x 2, toldV h x 3]).length ∧ m ≤ 9223372036854775807 ∧ (1 ≤ m → ∃ g, lo = some ⟨g, 0, none⟩ ∧ ∀ W', Tch (fun _ => False) w' W' → ∀ q t, (tvs 0 [toldV h x 0, toldV h x 1, toldV h x 2, toldV h x 3])[q]? = some t → W'.cell? ⟨g, q * 5, none⟩ = some (.int .i64 t.id) ∧ W'.cell? ⟨g, q * 5 + 1, none⟩ = some (.int .i64 t.ver))) ∧ Tch (fun _ => False) W w' := by
  refine (list_f (S.ss.hf.no tW) x (by have := S.T; omega)).mono ?_
  rintro r w' ⟨ho, t⟩
  refine ⟨?_, t⟩
  rcases ho with ⟨e, _⟩ | ⟨_, ids, tv, P, hids, rfl, hP, hTO⟩
  · omega
  · obtain ⟨lo, lc, rfl⟩ := row_slice hTO.own
    rw [S.si.list hx hids] at hP
    have hlen := congrArg List.length hP
    rw [List.length_map] at hlen
    refine ⟨lo, P.length, lc, rfl, hlen, ?_, fun h1 => ?_⟩
    · have h9 : (tvs 0 [toldV h x 0, toldV h x 1, toldV h x 2, toldV h x 3]).length ≤ 4 := by
        have g : ∀ (k : Nat) (l : List Int), (tvs k l).length ≤ l.length := fun k l => by
          induction l generalizing k with
          | nil => exact Nat.le_refl _
          | cons a r ih =>
            have h9 := ih (k + 1)
            have e9 : tvs k (a :: r) = if a = 0 then tvs (k + 1) r else tabT ((k : Int) + 1) a :: tvs (k + 1) r := rfl
            rw [e9, List.length_cons]
            split
            · omega
            · rw [List.length_cons]; omega
        exact g 0 _
      omega
    · obtain ⟨g, e, _, ha⟩ := own_at hTO.own (by omega)
      refine ⟨g, e, fun W' t' q tt hq => ?_⟩
      have hqP : q < P.length := by rw [hlen]; exact (List.getElem?_eq_some_iff.1 hq).1
      have ep : P[q].1 = tt := by
        rw [← hP, List.getElem?_map, List.getElem?_eq_getElem hqP] at hq
        simpa using hq
      have c0 := ha (q * 5 + 0) (.int .i64 P[q].1.id) (by rw [tcl_get P q 0 hqP (by omega)]; rfl)
      have c1 := ha (q * 5 + 1) (.int .i64 P[q].1.ver) (by rw [tcl_get P q 1 hqP (by omega)]; rfl)
      rw [Nat.zero_add, ep] at c0 c1
      exact ⟨(t'.cell (p := ⟨g, q * 5 + 0, none⟩) (cell_lt c0) (fun e => e)).trans c0, (t'.cell (p := ⟨g, q * 5 + 1, none⟩) (cell_lt c1) (fun e => e)).trans c1⟩
end Go.Proofs.Ytececlalnkiafaa
