import Derived.Test.YtdbaafigmfclcaaTSp0
import Derived.Test.YtdbaafigmfclcaaOrdv
import Derived.Laws.OwnMore
/- append of rows; an item set in its row. -/
namespace Go.Proofs.Ytdbaafigmfclcaa
open Go.RowKit Go

theorem row_lt {W : World} {e : TypeId} {sz n : Nat} {v : Value} {xs : List Value} (h : W.ownsRow 0 e sz v n xs) (g : Nat) (hg : v.ownBlock = some g) : g < W.heap.size := (h.lt g hg).2
theorem app_row {P : Program} (W : World) (t e : TypeId) (i : TypeInfo) (z : Value) (size bytes : Nat) (ht : P.underlying t = some (.slice e)) (hi : P.info? e = some i) (hz : i.zero = some z)
    (hsize : i.size = size) (hby : i.bytes = bytes) (hzs : z.cells.size = size) (hsz : 0 < size) (hbs : bytes ≤ 1000)
    (v u : Value) (n m : Nat) (xs ys : List Value) (hv : W.ownsRow 0 e size v n xs) (hu : W.ownsRow 0 e size u m ys) (h1 : ∀ x ∈ ys, x.oneCell' = true) (hn : n + m < 1000) :
    ∃ v' w', (Builtin.append_ #[t, t] t #[v, u]).run P W = .ok v' w' ∧ RS e size v v' (n + m) (xs ++ ys) W w' := by
  rcases hu.2 with ⟨rfl, rfl⟩ | ⟨g, c, cur, rfl, -, hg, hnc, hcm, hcs, hx⟩
  · have : ys = [] := List.eq_nil_of_length_eq_zero (by rw [hu.1]; omega)
    subst this
    exact ⟨v, W, run_append_owned_none (P := P) (w := W) 0 t t e i size ht hi v n xs hv, by rw [List.append_nil]; exact hv, Or.inl rfl, Tch.refl _ _⟩
  · have hl : ys.length = m * size := hu.1
    obtain ⟨v', w', hr, hown, hgr, hat, -⟩ := run_append_keeps (P := P) W 0 t t e i z size bytes ht hi hz hsize hby hzs hsz v n xs hv ⟨g, 0, none⟩ m c ys hl (fun j x hx' => by
      rw [add_plain, Nat.zero_add, blk_cell hg, ← Array.getElem?_toList]
      rw [← hx, List.getElem?_take] at hx'
      split at hx'
      · exact hx'
      · simp at hx') h1 (by unfold maxLen; omega) (by
        have : (n + m) * bytes ≤ 1000 * 1000 := Nat.mul_le_mul (by omega) hbs
        omega) (Nat.zero_le _)
    exact ⟨v', w', hr, hown, hat.imp id (fun e => ⟨_, e, Nat.le_refl _⟩), Tch.of_grown hgr (fun g e => e)⟩
theorem Iapp (W : World) (v u : Value) (n m : Nat) (xs ys : List Value) (hv : W.ownsRow 0 74 2 v n xs) (hu : W.ownsRow 0 74 2 u m ys) (h1 : ∀ x ∈ ys, x.oneCell' = true) (hn : n + m < 1000) :
    ∃ v' w', (Builtin.append_ #[65, 65] 65 #[v, u]).run Try.prog W = .ok v' w' ∧ RS 74 2 v v' (n + m) (xs ++ ys) W w' := by
  obtain ⟨i0, hi, hz0, hz1, hz2⟩ := info_parts info_item
  exact app_row W _ _ i0 _ 2 24 Try.underlying65 hi hz0 hz1 hz2 rfl (by decide) (by decide) v u n m xs ys hv hu h1 hn
theorem Kapp (W : World) (v u : Value) (n m : Nat) (xs ys : List Value) (hv : W.ownsRow 0 62 1 v n xs) (hu : W.ownsRow 0 62 1 u m ys) (h1 : ∀ x ∈ ys, x.oneCell' = true) (hn : n + m < 1000) :
    ∃ v' w', (Builtin.append_ #[66, 66] 66 #[v, u]).run Try.prog W = .ok v' w' ∧ RS 62 1 v v' (n + m) (xs ++ ys) W w' := by
  obtain ⟨i0, hi, hz0, hz1, hz2⟩ := info_parts info_kid
  exact app_row W _ _ i0 _ 1 8 Try.underlying66 hi hz0 hz1 hz2 rfl (by decide) (by decide) v u n m xs ys hv hu h1 hn
theorem own_one {W : World} {g : Nat} {e : TypeId} {sz : Nat} {cs : List Value} (hg : W.heap[g]? = some (.cells cs.toArray e (0, 0))) (hl : cs.length = sz) : W.ownsRow 0 e sz (.slice (some ⟨g, 0, none⟩) 1 1) 1 cs :=
  ⟨by omega, Or.inr ⟨g, 1, cs.toArray, rfl, Nat.zero_le _, hg, Nat.le_refl _, by unfold maxLen; omega, by simp; omega, by rw [Nat.one_mul, ← hl]; simp⟩⟩
theorem icl_set : ∀ (L : List It) (k : Nat) (e : It), icl (L.set k e) = ((icl L).set (k * 2) (.string e.1)).set (k * 2 + 1) (ev e.2)
  | [], k, e => by simp [icl]
  | a :: L, 0, e => by simp [icl]
  | a :: L, k + 1, e => by
    have := icl_set L k e
    rw [List.set_cons_succ, icl_cons, icl_cons, this, show (k + 1) * 2 = k * 2 + 1 + 1 by omega, show k * 2 + 1 + 1 + 1 = k * 2 + 1 + 1 + 1 from rfl]
    simp
theorem own_set {w : World} {g c k : Nat} {L : List It} {e : It} (h : w.ownsRow 0 74 2 (.slice (some ⟨g, 0, none⟩) L.length c) L.length (icl L)) (hk : k < L.length) : ((w.setCell ⟨g, k * 2, none⟩ (.string e.1)).setCell ⟨g, k * 2 + 1, none⟩ (ev e.2)).ownsRow 0 74 2 (.slice (some ⟨g, 0, none⟩) (L.set k e).length c) (L.set k e).length (icl (L.set k e)) := by
  obtain ⟨g', c', cur, ev', -, hg, hnc, hcm, hcs, hx⟩ := own_open h (by omega)
  injection ev' with e1 e2 e3
  injection e1 with e1
  injection e1 with e1
  subst e1; subst e3
  have h1 := blk_set (i := k * 2) hg (.string e.1)
  have h2 := blk_set (i := k * 2 + 1) h1 (ev e.2)
  refine ⟨icl_len _, Or.inr ⟨g, c, _, rfl, Nat.zero_le _, h2, by rw [List.length_set]; exact hnc, hcm, by simp; exact hcs, ?_⟩⟩
  rw [icl_set, ← hx, List.length_set]
  simp only [Array.toList_setIfInBounds]
  rw [List.take_set, List.take_set]
theorem icl_setv : ∀ (L : List It) (k : Nat) (hk : k < L.length) (x : GV), icl (L.set k (L[k].1, x)) = (icl L).set (k * 2 + 1) (ev x)
  | [], k, hk, e => by simp at hk
  | a :: L, 0, _, e => by simp [icl]
  | a :: L, k + 1, hk, e => by
    have := icl_setv L k (by simpa using hk) e
    simp only [List.getElem_cons_succ]
    rw [List.set_cons_succ, icl_cons, icl_cons, this, show (k + 1) * 2 = k * 2 + 1 + 1 by omega]
    simp
theorem own_setv {w : World} {g c k : Nat} {L : List It} {x : GV} (h : w.ownsRow 0 74 2 (.slice (some ⟨g, 0, none⟩) L.length c) L.length (icl L)) (hk : k < L.length) : (w.setCell ⟨g, k * 2 + 1, none⟩ (ev x)).ownsRow 0 74 2 (.slice (some ⟨g, 0, none⟩) (L.set k (L[k].1, x)).length c) (L.set k (L[k].1, x)).length (icl (L.set k (L[k].1, x))) := by
  obtain ⟨g', c', cur, ev', -, hg, hnc, hcm, hcs, hx⟩ := own_open h (by omega)
  injection ev' with e1 e2 e3
  injection e1 with e1
  injection e1 with e1
  subst e1; subst e3
  have h1 := blk_set (i := k * 2 + 1) hg (ev x)
  refine ⟨icl_len _, Or.inr ⟨g, c, _, rfl, Nat.zero_le _, h1, by rw [List.length_set]; exact hnc, hcm, by simp; exact hcs, ?_⟩⟩
  rw [icl_setv L k hk, ← hx, List.length_set]
  simp only [Array.toList_setIfInBounds]
  rw [List.take_set]
theorem FN.setIt {w : World} {p g c k : Nat} {kv : Value} {L : List It} {ps : List Nat} {s : Int} {e : It} (h : FN w p (.slice (some ⟨g, 0, none⟩) L.length c) kv L ps s) (hn : Nod (fb p (.slice (some ⟨g, 0, none⟩) L.length c) kv)) (hk : k < L.length) :
    FN ((w.setCell ⟨g, k * 2, none⟩ (.string e.1)).setCell ⟨g, k * 2 + 1, none⟩ (ev e.2)) p (.slice (some ⟨g, 0, none⟩) (L.set k e).length c) kv (L.set k e) ps s ∧ Tch (fun i => i = g) w ((w.setCell ⟨g, k * 2, none⟩ (.string e.1)).setCell ⟨g, k * 2 + 1, none⟩ (ev e.2)) := by
  have t : Tch (fun i => i = g) w ((w.setCell ⟨g, k * 2, none⟩ (.string e.1)).setCell ⟨g, k * 2 + 1, none⟩ (ev e.2)) := (Tch.setCell (fun i => i = g) w _ _ rfl).setCellR _ _ rfl
  have h0 := nod_self hn
  refine ⟨⟨by rw [List.length_set]; exact h.nd.tch t (fun e => h0.1 (by rw [e]; rfl)), own_set h.its hk, own_tch h.kids t (fun g' e e' => ?_)⟩, t⟩
  subst e'
  have hc := fb_count p (.slice (some ⟨g', 0, none⟩) L.length c) kv g'
  have := hn g'
  rw [hc] at this
  have h1 := count_mem (mem_bl.2 e)
  have h2 := count_mem (mem_bl.2 (show (Value.slice (some ⟨g', 0, none⟩) L.length c).ownBlock = some g' from rfl))
  omega
section
variable {w W W' : World} {Fo : List Nat} {p : Nat} {iv kv : Value} {L L' : List It} {ps : List Nat} {s : Int} {a : Nat} {ia ka : Value} {l : List It} {ql : List Nat} {sa : Int} {c : Nat} {ic kc : Value} {r : List It} {qr : List Nat} {sc : Int}
theorem S3.pF {iv' : Value} (h : S3 w W Fo p iv kv L ps s a ia ka l ql sa c ic kc r qr sc) (h1 : FN W' p iv' kv L' ps s) (hb : iv'.ownBlock = iv.ownBlock) (t : Tch (fun i => iv.ownBlock = some i) W W') : S3 w W' Fo p iv' kv L' ps s a ia ka l ql sa c ic kc r qr sc := by
  have hcn : ∀ b, (fb p iv kv ++ (fb a ia ka ++ fb c ic kc)).count b = (fb p iv kv).count b + (fb a ia ka).count b + (fb c ic kc).count b := fun b => by rw [List.count_append, List.count_append]; omega
  have hfb : fb p iv' kv = fb p iv kv := by unfold fb; rw [bl_of hb]
  have hap : ∀ b, iv.ownBlock = some b → b ∉ fb a ia ka ∧ b ∉ fb c ic kc := fun b hb => by
    have e := h.nod b
    rw [hcn] at e
    have e2 : 1 ≤ (fb p iv kv).count b := count_mem (by simp [fb, mem_bl.2 hb])
    exact ⟨fun hm => by have := count_mem hm; omega, fun hm => by have := count_mem hm; omega⟩
  refine ⟨h1, h.A.tch t (fun b hb e => (hap b e).1 hb), h.B.tch t (fun b hb e => (hap b e).2 hb), h.t.trans t (fun i hi e => ?_), by rw [hfb]; exact h.f, by rw [hfb]; exact h.nod⟩
  have hx : i ∈ fb p iv kv := by simp [fb, mem_bl.2 e]
  rcases old_or h.f (i := i) (by simp only [List.mem_append]; exact Or.inl hx) with h6 | h6
  · exact h6
  · omega
end
theorem zsum_app (w : World) (a b : List Nat) : zsum w (a ++ b) = zsum w a + zsum w b := by unfold zsum; rw [List.map_append, List.sum_append]
theorem zsum_split (w : World) (a : List Nat) (k : Nat) : zsum w (a.take k) + zsum w (a.drop k) = zsum w a := by rw [← zsum_app, List.take_append_drop]
theorem cnt9 {p a c : Nat} {iv kv ia ka ic kc : Value} (h : Nod (fb p iv kv ++ (fb a ia ka ++ fb c ic kc))) (b : Nat) : [p].count b + (bl iv).count b + (bl kv).count b + ([a].count b + (bl ia).count b + (bl ka).count b) + ([c].count b + (bl ic).count b + (bl kc).count b) ≤ 1 := by
  have := h b
  unfold fb at this
  simp only [List.count_append, List.count_cons, List.count_nil] at this ⊢
  omega
def ShiftOut (w w' : World) (Fo : List Nat) (p : Nat) (L : List It) (ps : List Nat) (s : Int) (a c : Nat) (l r : List It) (ql qr : List Nat) : Prop :=
  ∃ iv kv ia ka ic kc, S3 w w' Fo p iv kv L ps s a ia ka l ql (l.length + zsum w ql) c ic kc r qr (r.length + zsum w qr)
def JoinOut (w w' : World) (Fo : List Nat) (p : Nat) (L : List It) (ps : List Nat) (s : Int) (a c : Nat) (l : List It) (ql : List Nat) : Prop :=
  ∃ iv kv ia ka ic kc r qr sc, S3 w w' Fo p iv kv L ps s a ia ka l ql (l.length + zsum w ql) c ic kc r qr sc
end Go.Proofs.Ytdbaafigmfclcaa
