import Derived.Test.YtkcmpipipelgoaaCCopy
import Derived.Test.YtkcmpipipelgoaaCRight3
/- Tables in the world; copied. -/
namespace Go.Proofs.Ytkcmpipipelgoaa
open Go.RowKit Go

theorem row_ge {w : World} {base : Nat} {t : TypeId} {sz n : Nat} {v : Value} {xs : List Value} (h : w.ownsRow base t sz v n xs) {k : Nat} (hk : v.ownBlock = some k) : base ≤ k := (h.lt k hk).1
theorem own_low {W : World} {N N' sz n : Nat} {t : TypeId} {v : Value} {xs : List Value} (h : W.ownsRow N t sz v n xs) (hN : N' ≤ N) : W.ownsRow N' t sz v n xs := by
  obtain ⟨h1, h2⟩ := h
  refine ⟨h1, ?_⟩
  rcases h2 with h2 | ⟨g, c, cur, hv, hb, hr⟩
  · exact Or.inl h2
  · exact Or.inr ⟨g, c, cur, hv, Nat.le_trans hN hb, hr⟩
theorem ceq_nil_no (ad : Addr) (n c : Nat) (w : World) : (binOp .eql 34 (.slice (some ad) n c) (.slice none 0 0)).run Try.prog w = .ok (.bool false) w := Lib.run_eql_slice_some_nil w ad n c Try.underlying34
theorem ceq_nil_yes (w : World) : (binOp .eql 34 (.slice none 0 0) (.slice none 0 0)).run Try.prog w = .ok (.bool true) w := Lib.run_eql_slice_nil_nil w 0 0 Try.underlying34

set_option maxHeartbeats 1000000 in
set_option maxRecDepth 100000 in
theorem sclone_any (l : List Col) (ao : Option Addr) (c : Nat) (w : World) (h : SL w ao (ccl l)) (hno : ao = none → l = [] ∧ c = 0) (hlen : l.length * 32 ≤ 140737488351232) :
    Calls Try.prog 42 #[.slice ao l.length c] w fun x w' => (∃ v, x = .returned v ∧ w'.ownsRow w.heap.size 80 3 v l.length (ccl l)) ∧ Tch (fun _ => False) w w' := by
  cases ao with
  | none =>
    obtain ⟨rfl, rfl⟩ := hno rfl
    have he := ceq_nil_yes
    clear h
    go_enter Try.func42, Try.ntmps42
    go_wp2
    go_ret
    exact ⟨⟨_, rfl, rfl, Or.inl ⟨rfl, rfl⟩⟩, Tch.refl _ _⟩
  | some ad =>
    obtain ⟨i0, hi, hz0, hz1, hz2⟩ := info_parts info_col
    have he := ceq_nil_no ad l.length c
    obtain ⟨w0, hw0⟩ : ∃ w0, w0 = w.alloc (.cells #[] 80) := ⟨_, rfl⟩
    have t0 : Tch (fun _ => False) w w0 := by rw [hw0]; exact Tch.alloc _ _ _
    have hown : w0.ownsRow w.heap.size 80 3 (.slice (some ⟨w.heap.size, 0, none⟩) 0 0) 0 [] := ⟨rfl, Or.inr ⟨w.heap.size, 0, #[], rfl, Nat.le_refl _, by rw [hw0]; exact alloc_new _ _, Nat.le_refl _, by unfold maxLen; omega, rfl, rfl⟩⟩
    have Hcl : Hid (∀ j u, (ccl l)[j]? = some u → w0.cell? (ad.add j) = some u) := fun j u hu => by
      obtain ⟨g, o, e, ha⟩ := h.no t0 (by rintro e; rw [e] at hu; simp at hu)
      injection e with e
      subst e
      rw [add_plain]; exact ha j u hu
    have Hown : Hid (w0.ownsRow w.heap.size 80 3 (.slice (some ⟨w.heap.size, 0, none⟩) 0 0) 0 []) := hown
    have Hw0 : Hid _ := hw0
    have Hsz : Hid (w.heap.size ≤ w0.heap.size) := t0.size
    clear h hown hw0
    go_enter Try.func42, Try.ntmps42
    go_wp2_with (at_builtin; have hw0 := Hw0.out; rw [← hw0]; clear hw0; refine wpList_append_keeps _ rfl _ _ 34 rfl w.heap.size 80 i0 (.agg #[.string ⟨#[]⟩, .int .i64 0, .bool false]) 3 32 Try.underlying34 hi hz0 hz1 hz2 rfl (by decide) (.slice (some ⟨w.heap.size, 0, none⟩) 0 0) 0 [] rfl Hown.out ad l.length c (ccl l) rfl (ccl_len l) Hcl.out (ccl_one l) (by unfold maxLen; omega) (by omega) Hsz.out ?_; intro v1 w1 hown1 hgr1 hat1 _; have HF : Hid (w1.ownsRow w.heap.size 80 3 v1 l.length (ccl l)) := (by have h1 := hown1; rw [Nat.zero_add, List.nil_append] at h1; exact h1); have HT : Hid (Tch (fun _ => False) w w1) := (t0.trans (grown_at (Tch.refl (fun _ => False) w0) hgr1) (fun i hi e => by have := row_ge Hown.out e; omega)); obtain ⟨o1, c1, hv1⟩ := row_slice HF.out; subst hv1)
    go_ret
    exact ⟨⟨_, rfl, HF.out⟩, HT.out⟩
set_option maxHeartbeats 1000000 in
set_option maxRecDepth 100000 in
theorem copied_any (t : Tbl) (ao : Option Addr) (c : Nat) (w : World) (h : SL w ao (ccl t.cols)) (hno : ao = none → t.cols = [] ∧ c = 0) (hlen : t.cols.length * 32 ≤ 140737488351232) :
    Calls Try.prog 23 #[tA t.id t.ver t.nm (.slice ao t.cols.length c) t.key] w fun x w' => (∃ v, x = .returned (tA t.id t.ver t.nm v t.key) ∧ w'.ownsRow w.heap.size 80 3 v t.cols.length (ccl t.cols)) ∧ Tch (fun _ => False) w w' := by
  obtain ⟨N, hN⟩ : ∃ N, N = w.heap.size := ⟨_, rfl⟩
  obtain ⟨w0, hw0⟩ : ∃ w0, w0 = (w.alloc (.cells #[.int .i64 t.id, .int .i64 t.ver, .string t.nm, .slice ao t.cols.length c, .int .i64 t.key] 36)).alloc (.cells #[.int .i64 0, .int .i64 0, .string ⟨#[]⟩, .slice none 0 0, .int .i64 0] 36) := ⟨_, rfl⟩
  have t0 : Tch (fun _ => False) w w0 := by rw [hw0]; exact (Tch.alloc _ _ _).allocR _
  have q1 := sclone_any t.cols ao c w0 (h.no t0) hno hlen
  have Hw0 : Hid _ := hw0
  have HN : Hid (N = w.heap.size) := hN
  clear h hw0 hN
  go_enter Try.func23, Try.ntmps23
  go_wp2_with fail
  rw [← HN.out]
  have hw0 := Hw0.out
  rw [← hw0]
  clear hw0
  refine q1.mono ?_
  rintro x w1 ⟨⟨v, rfl, hv⟩, t1⟩
  clear q1
  obtain ⟨vo, vc, hvv⟩ := row_slice hv
  subst hvv
  have hs0 : w0.heap.size = N + 2 := by rw [Hw0.out, World.size_alloc, World.size_alloc, HN.out]
  have hX : w1.heap[N]? = some (.cells #[.int .i64 t.id, .int .i64 t.ver, .string t.nm, .slice ao t.cols.length c, .int .i64 t.key] 36 (0, 0)) := by
    rw [t1.block N (by omega) (fun h => h), Hw0.out, HN.out]
    exact (Tch.alloc (fun _ => False) _ _).block _ (by simp) (fun h => h) |>.trans (alloc_new _ _)
  have hY : w1.heap[N + 1]? = some (.cells #[.int .i64 0, .int .i64 0, .string ⟨#[]⟩, .slice none 0 0, .int .i64 0] 36 (0, 0)) := by
    rw [t1.block (N + 1) (by omega) (fun h => h), Hw0.out, HN.out, ← World.size_alloc]; exact alloc_new _ _
  obtain ⟨x0, x1, x2, x3, x4⟩ : w1.cell? ⟨N, 0, none⟩ = some (.int .i64 t.id) ∧ w1.cell? ⟨N, 1, none⟩ = some (.int .i64 t.ver) ∧ w1.cell? ⟨N, 2, none⟩ = some (.string t.nm) ∧ w1.cell? ⟨N, 3, none⟩ = some (.slice ao t.cols.length c) ∧ w1.cell? ⟨N, 4, none⟩ = some (.int .i64 t.key) := ⟨by rw [blk_cell hX]; rfl, by rw [blk_cell hX]; rfl, by rw [blk_cell hX]; rfl, by rw [blk_cell hX]; rfl, by rw [blk_cell hX]; rfl⟩
  obtain ⟨y0, y1, y2, y3, y4⟩ : w1.cell? ⟨N + 1, 0, none⟩ = some (.int .i64 0) ∧ w1.cell? ⟨N + 1, 1, none⟩ = some (.int .i64 0) ∧ w1.cell? ⟨N + 1, 2, none⟩ = some (.string ⟨#[]⟩) ∧ w1.cell? ⟨N + 1, 3, none⟩ = some (.slice none 0 0) ∧ w1.cell? ⟨N + 1, 4, none⟩ = some (.int .i64 0) := ⟨by rw [blk_cell hY]; rfl, by rw [blk_cell hY]; rfl, by rw [blk_cell hY]; rfl, by rw [blk_cell hY]; rfl, by rw [blk_cell hY]; rfl⟩
  have f3 := blk_frozen hX 3
  have g0 := blk_frozen hY 0; have g1 := blk_frozen hY 1; have g2 := blk_frozen hY 2; have g3 := blk_frozen hY 3; have g4 := blk_frozen hY 4
  have HV : Hid (∀ W, Tch (fun i => i = N ∨ i = N + 1) w1 W → W.ownsRow w.heap.size 80 3 (.slice vo t.cols.length vc) t.cols.length (ccl t.cols)) := fun W tW => own_low (own_tch hv tW (fun g e h => by have := row_ge hv e; omega)) t0.size
  have HT : Hid (∀ W, Tch (fun i => i = N ∨ i = N + 1) w1 W → Tch (fun _ => False) w W) := fun W tW => (t0.trans' t1).trans tW (fun i hi h => by have := HN.out; omega)
  clear hX hY hv hs0
  go_wp2_with fail
  have hrs : Try.f23.results = #[.cell 2 36] := by kernel_rfl
  refine bodyPost_ret (v := tA t.id t.ver t.nm (.slice vo t.cols.length vc) t.key) (by simp only [results, hrs]; go_simp) rfl ⟨⟨.slice vo t.cols.length vc, rfl, HV.out _ ?_⟩, HT.out _ ?_⟩
  all_goals exact (((((Tch.setCell (fun i => i = N ∨ i = N + 1) w1 ⟨N, 3, none⟩ _ (Or.inl rfl)).setCellR ⟨N + 1, 0, none⟩ _ (Or.inr rfl)).setCellR ⟨N + 1, 1, none⟩ _ (Or.inr rfl)).setCellR ⟨N + 1, 2, none⟩ _ (Or.inr rfl)).setCellR ⟨N + 1, 3, none⟩ _ (Or.inr rfl)).setCellR ⟨N + 1, 4, none⟩ _ (Or.inr rfl)
end Go.Proofs.Ytkcmpipipelgoaa
/- Tables in the world. -/
namespace Go.Proofs.Ytkcmpipipelgoaa
open Go.RowKit Go

theorem own_sl {W : World} {base sz n : Nat} {t : TypeId} {ao : Option Addr} {c : Nat} {xs : List Value} (h : W.ownsRow base t sz (.slice ao n c) n xs) : SL W ao xs := fun hx => by
  have hn : 0 < n := by
    rcases Nat.eq_zero_or_pos n with rfl | h'
    · have := h.1; simp at this; exact absurd this hx
    · exact h'
  obtain ⟨g, e, _, ha⟩ := own_at h hn
  exact ⟨g, 0, e, ha⟩

def tcs (p : Tbl × Value) : List Value := [.int .i64 p.1.id, .int .i64 p.1.ver, .string p.1.nm, p.2, .int .i64 p.1.key]
def tcl (l : List (Tbl × Value)) : List Value := l.flatMap tcs
theorem tcl_len : ∀ l : List (Tbl × Value), (tcl l).length = l.length * 5
  | [] => rfl
  | a :: l => by
    have := tcl_len l
    unfold tcl at this ⊢
    simp only [List.flatMap_cons, List.length_append, this, List.length_cons]
    simp [tcs]; omega
theorem tcl_append (l m : List (Tbl × Value)) : tcl (l ++ m) = tcl l ++ tcl m := by simp [tcl]
theorem tcl_get : ∀ (l : List (Tbl × Value)) (k j : Nat) (hk : k < l.length), j < 5 → (tcl l)[k * 5 + j]? = (tcs l[k])[j]?
  | [], k, j, hk, _ => by simp at hk
  | a :: l, 0, j, _, hj => by
    unfold tcl
    rw [List.flatMap_cons, Nat.zero_mul, Nat.zero_add, List.getElem?_append_left (by simp [tcs]; omega)]; rfl
  | a :: l, k + 1, j, hk, hj => by
    have := tcl_get l k j (by simpa using hk) hj
    unfold tcl at this ⊢
    rw [List.flatMap_cons, List.getElem?_append_right (by simp [tcs]; omega)]
    simp only [List.getElem_cons_succ]
    rw [← this]
    congr 1
    simp [tcs]; omega
/-- A table's columns, for reading. -/
structure CK (W : World) (F : Nat → Prop) (p : Tbl × Value) (co : Option Addr) (cc : Nat) : Prop where
  eq : p.2 = .slice co p.1.cols.length cc
  sl : SL W co (ccl p.1.cols)
  no : co = none → p.1.cols = [] ∧ cc = 0
  cap : p.1.cols.length ≤ cc
  nf : p.1.cols ≠ [] → ∀ g o, co = some ⟨g, o, none⟩ → ¬ F g ∧ g < W.heap.size
/-- Tables, for reading: none of the blocks F is theirs. -/
structure TL (W : World) (F : Nat → Prop) (to : Option Addr) (P : List (Tbl × Value)) : Prop where
  sl : SL W to (tcl P)
  nf : P ≠ [] → ∀ g o, to = some ⟨g, o, none⟩ → ¬ F g
  col : ∀ i (hi : i < P.length), ∃ co cc, CK W F P[i] co cc
theorem CK.tch {S F : Nat → Prop} {W W' : World} {p : Tbl × Value} {co : Option Addr} {cc : Nat} (h : CK W F p co cc) (t : Tch S W W') (hS : ∀ i, i < W.heap.size → S i → F i) : CK W' F p co cc :=
  ⟨h.eq, fun hc => by
    obtain ⟨g, o, e, ha⟩ := h.sl hc
    have hne : p.1.cols ≠ [] := fun e0 => hc (by rw [e0]; rfl)
    exact ⟨g, o, e, ha.tch t (fun _ hs => (h.nf hne g o e).1 (hS g (h.nf hne g o e).2 hs))⟩, h.no, h.cap, fun hne g o e => ⟨(h.nf hne g o e).1, Nat.lt_of_lt_of_le (h.nf hne g o e).2 t.size⟩⟩
theorem tcl_nil {P : List (Tbl × Value)} (h : P ≠ []) : tcl P ≠ [] := fun e => by
  have := tcl_len P
  rw [e] at this
  have := List.length_pos_iff.2 h
  simp at *; omega
theorem TL.tch {S F : Nat → Prop} {W W' : World} {to : Option Addr} {P : List (Tbl × Value)} (h : TL W F to P) (t : Tch S W W') (hS : ∀ i, i < W.heap.size → S i → F i) : TL W' F to P := by
  refine ⟨fun hc => ?_, h.nf, fun i hi => ?_⟩
  · obtain ⟨g, o, e, ha⟩ := h.sl hc
    have hP : P ≠ [] := by rintro rfl; exact hc rfl
    exact ⟨g, o, e, ha.tch t (fun _ hs => h.nf hP g o e (hS g (ha.lt hc) hs))⟩
  · obtain ⟨co, cc, hck⟩ := h.col i hi
    exact ⟨co, cc, hck.tch t hS⟩
theorem TL.at {W : World} {F : Nat → Prop} {to : Option Addr} {P : List (Tbl × Value)} (h : TL W F to P) (k : Nat) (hk : k < P.length) : ∃ g o, to = some ⟨g, o, none⟩ ∧ W.cell? ⟨g, o + k * 5, none⟩ = some (.int .i64 P[k].1.id) ∧ W.cell? ⟨g, o + k * 5 + 1, none⟩ = some (.int .i64 P[k].1.ver) ∧ W.cell? ⟨g, o + k * 5 + 2, none⟩ = some (.string P[k].1.nm) ∧ W.cell? ⟨g, o + k * 5 + 3, none⟩ = some P[k].2 ∧ W.cell? ⟨g, o + k * 5 + 4, none⟩ = some (.int .i64 P[k].1.key) := by
  obtain ⟨g, o, e, ha⟩ := h.sl (tcl_nil (by rintro rfl; simp at hk))
  have key : ∀ j u, j < 5 → (tcs P[k])[j]? = some u → W.cell? ⟨g, o + k * 5 + j, none⟩ = some u := fun j u hj hu => by
    have := ha (k * 5 + j) u (by rw [tcl_get P k j hk hj]; exact hu)
    rwa [← Nat.add_assoc] at this
  exact ⟨g, o, e, key 0 _ (by omega) rfl, key 1 _ (by omega) rfl, key 2 _ (by omega) rfl, key 3 _ (by omega) rfl, key 4 _ (by omega) rfl⟩

/-- Tables of one's own: their blocks are apart. -/
structure TO (W : World) (base : Nat) (tv : Value) (P : List (Tbl × Value)) : Prop where
  own : W.ownsRow base 36 5 tv P.length (tcl P)
  col : ∀ i (hi : i < P.length), W.ownsRow base 80 3 P[i].2 P[i].1.cols.length (ccl P[i].1.cols)
  sep : ∀ i (hi : i < P.length) g, P[i].2.ownBlock = some g → tv.ownBlock ≠ some g
  dis : ∀ i j (hi : i < P.length) (hj : j < P.length) g, i ≠ j → P[i].2.ownBlock = some g → P[j].2.ownBlock ≠ some g
theorem own_none {W : World} {base sz n : Nat} {t : TypeId} {c : Nat} {xs : List Value} (h : W.ownsRow base t sz (.slice none n c) n xs) : n = 0 ∧ c = 0 ∧ xs = [] := by
  rcases h.2 with ⟨h1, h2⟩ | ⟨g, c', cur, h1, _⟩
  · injection h1 with _ _ h3
    exact ⟨h2, h3, List.eq_nil_of_length_eq_zero (by rw [h.1, h2]; simp)⟩
  · injection h1 with h1; cases h1
theorem own_cap {W : World} {base sz n : Nat} {t : TypeId} {ao : Option Addr} {c : Nat} {xs : List Value} (h : W.ownsRow base t sz (.slice ao n c) n xs) : n ≤ c := by
  rcases h.2 with ⟨h1, h2⟩ | ⟨g, c', cur, h1, _, _, h3, _⟩
  · omega
  · injection h1 with _ _ h4; omega
theorem own_ck {W : World} {base : Nat} {p : Tbl × Value} (h : W.ownsRow base 80 3 p.2 p.1.cols.length (ccl p.1.cols)) : ∃ co cc, CK W (fun i => i < base) p co cc := by
  obtain ⟨co, cc, e⟩ := row_slice h
  have h' := h
  rw [e] at h'
  refine ⟨co, cc, e, own_sl h', fun e2 => ?_, own_cap h', fun _ g o e2 => ?_⟩
  · subst e2
    obtain ⟨h1, h2, _⟩ := own_none h'
    exact ⟨List.eq_nil_of_length_eq_zero h1, h2⟩
  · have := h'.lt g (by rw [e2]; rfl)
    omega
theorem TO.toTL {W : World} {base : Nat} {to : Option Addr} {tc : Nat} {P : List (Tbl × Value)} (h : TO W base (.slice to P.length tc) P) : TL W (fun i => i < base) to P :=
  ⟨own_sl h.own, fun _ g o e => by have := h.own.lt g (by rw [e]; rfl); omega, fun i hi => own_ck (h.col i hi)⟩
theorem TO.tch {S : Nat → Prop} {W W' : World} {base : Nat} {tv : Value} {P : List (Tbl × Value)} (h : TO W base tv P) (t : Tch S W W') (hS : ∀ i, base ≤ i → i < W.heap.size → ¬ S i) : TO W' base tv P :=
  ⟨own_tch h.own t (fun g e => hS g (h.own.lt g e).1 (h.own.lt g e).2), fun i hi => own_tch (h.col i hi) t (fun g e => hS g ((h.col i hi).lt g e).1 ((h.col i hi).lt g e).2), h.sep, h.dis⟩
theorem set5_step (cur : Array Value) (q n : Nat) (L : List Value) (a b c d e : Value) (hs : cur.size = n * 5) (hq : q < n) (hL : L.length = q * 5) (h : cur.toList.take (q * 5) = L) : (((((cur.setIfInBounds (q * 5) a).setIfInBounds (q * 5 + 1) b).setIfInBounds (q * 5 + 2) c).setIfInBounds (q * 5 + 3) d).setIfInBounds (q * 5 + 4) e).toList.take ((q + 1) * 5) = L ++ [a, b, c, d, e] := by
  apply List.ext_getElem?
  intro j
  rw [List.getElem?_take]
  rcases Nat.lt_or_ge j (q * 5) with h1 | h1
  · rw [if_pos (by omega), List.getElem?_append_left (by omega), ← h, List.getElem?_take, if_pos h1, Array.getElem?_toList, Array.getElem?_toList, Array.getElem?_setIfInBounds_ne (by omega), Array.getElem?_setIfInBounds_ne (by omega), Array.getElem?_setIfInBounds_ne (by omega), Array.getElem?_setIfInBounds_ne (by omega), Array.getElem?_setIfInBounds_ne (by omega)]
  · rw [List.getElem?_append_right (by omega), hL]
    rcases Nat.lt_or_ge j ((q + 1) * 5) with h2 | h2
    · rw [if_pos h2, Array.getElem?_toList]
      rcases (by omega : j = q * 5 ∨ j = q * 5 + 1 ∨ j = q * 5 + 2 ∨ j = q * 5 + 3 ∨ j = q * 5 + 4) with rfl | rfl | rfl | rfl | rfl
      · rw [Array.getElem?_setIfInBounds_ne (by omega), Array.getElem?_setIfInBounds_ne (by omega), Array.getElem?_setIfInBounds_ne (by omega), Array.getElem?_setIfInBounds_ne (by omega), Array.getElem?_setIfInBounds_self_of_lt (by omega), Nat.sub_self]; rfl
      · rw [Array.getElem?_setIfInBounds_ne (by omega), Array.getElem?_setIfInBounds_ne (by omega), Array.getElem?_setIfInBounds_ne (by omega), Array.getElem?_setIfInBounds_self_of_lt (by simp; omega), show q * 5 + 1 - q * 5 = 1 by omega]; rfl
      · rw [Array.getElem?_setIfInBounds_ne (by omega), Array.getElem?_setIfInBounds_ne (by omega), Array.getElem?_setIfInBounds_self_of_lt (by simp; omega), show q * 5 + 2 - q * 5 = 2 by omega]; rfl
      · rw [Array.getElem?_setIfInBounds_ne (by omega), Array.getElem?_setIfInBounds_self_of_lt (by simp; omega), show q * 5 + 3 - q * 5 = 3 by omega]; rfl
      · rw [Array.getElem?_setIfInBounds_self_of_lt (by simp; omega), show q * 5 + 4 - q * 5 = 4 by omega]; rfl
    · rw [if_neg (by omega), List.getElem?_eq_none (by simp; omega)]
theorem set5_cells {W : World} {g n q : Nat} {t : TypeId} {cur : Array Value} (hh : W.heap[g]? = some (.cells cur t (0, 0))) (hs : cur.size = n * 5) (hq : q < n) (v0 v1 v2 v3 : Value) :
    (∃ y, W.cell? ⟨g, q * 5, none⟩ = some y) ∧ (∃ y, (W.setCell ⟨g, q * 5, none⟩ v0).cell? ⟨g, q * 5 + 1, none⟩ = some y) ∧ (∃ y, ((W.setCell ⟨g, q * 5, none⟩ v0).setCell ⟨g, q * 5 + 1, none⟩ v1).cell? ⟨g, q * 5 + 2, none⟩ = some y) ∧ (∃ y, (((W.setCell ⟨g, q * 5, none⟩ v0).setCell ⟨g, q * 5 + 1, none⟩ v1).setCell ⟨g, q * 5 + 2, none⟩ v2).cell? ⟨g, q * 5 + 3, none⟩ = some y) ∧ (∃ y, ((((W.setCell ⟨g, q * 5, none⟩ v0).setCell ⟨g, q * 5 + 1, none⟩ v1).setCell ⟨g, q * 5 + 2, none⟩ v2).setCell ⟨g, q * 5 + 3, none⟩ v3).cell? ⟨g, q * 5 + 4, none⟩ = some y) ∧ ∀ j, W.frozen? ⟨g, j, none⟩ = false := by
  have key : ∀ (W' : World) (j : Nat), j < 5 → (∀ i, W'.heap[g]? = some (.cells i t (0, 0)) → i.size = n * 5 → True) → (∃ cu, W'.heap[g]? = some (.cells cu t (0, 0)) ∧ cu.size = n * 5) → ∃ y, W'.cell? ⟨g, q * 5 + j, none⟩ = some y := fun W' j hj _ ⟨cu, h1, h2⟩ => ⟨cu[q * 5 + j]'(by omega), by rw [blk_cell h1]; exact Array.getElem?_eq_getElem _⟩
  have s0 := hh
  have s1 := blk_set (i := q * 5) s0 v0
  have s2 := blk_set (i := q * 5 + 1) s1 v1
  have s3 := blk_set (i := q * 5 + 2) s2 v2
  have s4 := blk_set (i := q * 5 + 3) s3 v3
  exact ⟨key _ 0 (by omega) (fun _ _ _ => trivial) ⟨_, s0, hs⟩, key _ 1 (by omega) (fun _ _ _ => trivial) ⟨_, s1, by simp [hs]⟩, key _ 2 (by omega) (fun _ _ _ => trivial) ⟨_, s2, by simp [hs]⟩, key _ 3 (by omega) (fun _ _ _ => trivial) ⟨_, s3, by simp [hs]⟩, key _ 4 (by omega) (fun _ _ _ => trivial) ⟨_, s4, by simp [hs]⟩, fun j => blk_frozen hh j⟩
theorem info_tbl : (Try.prog.info? 36).map (fun i => (i.zero, i.size, i.bytes)) = some (some (.agg #[.int .i64 0, .int .i64 0, .string ⟨#[]⟩, .slice none 0 0, .int .i64 0]), 5, 64) := by kernel_rfl
end Go.Proofs.Ytkcmpipipelgoaa
