import Derived.Test.YtolamjipigfocaaCFits
/- Tables in the world; copied. -/
namespace Go.Proofs.Ytolamjipigfocaa
open Go.RowKit Go

theorem ceq_nil_no (ad : Addr) (n c : Nat) (w : World) : (binOp .eql 34 (.slice (some ad) n c) (.slice none 0 0)).run Try.prog w = .ok (.bool false) w := Lib.run_eql_slice_some_nil w ad n c Try.underlying34
theorem ceq_nil_yes (w : World) : (binOp .eql 34 (.slice none 0 0) (.slice none 0 0)).run Try.prog w = .ok (.bool true) w := Lib.run_eql_slice_nil_nil w 0 0 Try.underlying34

set_option maxHeartbeats 1000000 in
set_option maxRecDepth 100000 in
theorem sclone_any (l : List Col) (ao : Option Addr) (c : Nat) (w : World) (h : SL w ao (ccl l)) (hno : ao = none → l = [] ∧ c = 0) (hlen : l.length * 32 ≤ 140737488351232) :
    Calls Try.prog 70 #[.slice ao l.length c] w fun x w' => (∃ v, x = .returned v ∧ w'.ownsRow w.heap.size 43 3 v l.length (ccl l)) ∧ Tch (fun _ => False) w w' := by
  cases ao with
  | none =>
    obtain ⟨rfl, rfl⟩ := hno rfl
    have he := ceq_nil_yes
    clear h
    go_enter Try.func70, Try.ntmps70
    go_wp2
    go_ret
    exact ⟨⟨_, rfl, rfl, Or.inl ⟨rfl, rfl⟩⟩, Tch.refl _ _⟩
  | some ad =>
    obtain ⟨i0, hi, hz0, hz1, hz2⟩ := info_parts info_col
    have he := ceq_nil_no ad l.length c
    obtain ⟨w0, hw0⟩ : ∃ w0, w0 = w.alloc (.cells #[] 43) := ⟨_, rfl⟩
    have t0 : Tch (fun _ => False) w w0 := by rw [hw0]; exact Tch.alloc _ _ _
    have hown : w0.ownsRow w.heap.size 43 3 (.slice (some ⟨w.heap.size, 0, none⟩) 0 0) 0 [] := ⟨rfl, Or.inr ⟨w.heap.size, 0, #[], rfl, Nat.le_refl _, by rw [hw0]; exact alloc_new _ _, Nat.le_refl _, by unfold maxLen; omega, rfl, rfl⟩⟩
    have Hcl : Hid (∀ j u, (ccl l)[j]? = some u → w0.cell? (ad.add j) = some u) := fun j u hu => by
      obtain ⟨g, o, e, ha⟩ := h.no t0 (by rintro e; rw [e] at hu; simp at hu)
      injection e with e
      subst e
      rw [add_plain]; exact ha j u hu
    have Hown : Hid (w0.ownsRow w.heap.size 43 3 (.slice (some ⟨w.heap.size, 0, none⟩) 0 0) 0 []) := hown
    have Hw0 : Hid _ := hw0
    have Hsz : Hid (w.heap.size ≤ w0.heap.size) := t0.size
    clear h hown hw0
    go_enter Try.func70, Try.ntmps70
    go_wp2_with (at_builtin; have hw0 := Hw0.out; rw [← hw0]; clear hw0; refine wpList_append_keeps _ rfl _ _ 34 rfl w.heap.size 43 i0 (.agg #[.string ⟨#[]⟩, .int .i64 0, .bool false]) 3 32 Try.underlying34 hi hz0 hz1 hz2 rfl (by decide) (.slice (some ⟨w.heap.size, 0, none⟩) 0 0) 0 [] rfl Hown.out ad l.length c (ccl l) rfl (ccl_len l) Hcl.out (ccl_one l) (by unfold maxLen; omega) (by omega) Hsz.out ?_; intro v1 w1 hown1 hgr1 hat1 _; have HF : Hid (w1.ownsRow w.heap.size 43 3 v1 l.length (ccl l)) := (by have h1 := hown1; rw [Nat.zero_add, List.nil_append] at h1; exact h1); have HT : Hid (Tch (fun _ => False) w w1) := (t0.trans (grown_at (Tch.refl (fun _ => False) w0) hgr1) (fun i hi e => by have := row_ge Hown.out e; omega)); obtain ⟨o1, c1, hv1⟩ := row_slice HF.out; subst hv1)
    go_ret
    exact ⟨⟨_, rfl, HF.out⟩, HT.out⟩
set_option maxHeartbeats 1000000 in
set_option maxRecDepth 100000 in
theorem copied_any (t : Tbl) (ao : Option Addr) (c : Nat) (w : World) (h : SL w ao (ccl t.cols)) (hno : ao = none → t.cols = [] ∧ c = 0) (hlen : t.cols.length * 32 ≤ 140737488351232) :
    Calls Try.prog 51 #[tA t.id t.ver t.nm (.slice ao t.cols.length c) t.key] w fun x w' => (∃ v, x = .returned (tA t.id t.ver t.nm v t.key) ∧ w'.ownsRow w.heap.size 43 3 v t.cols.length (ccl t.cols)) ∧ Tch (fun _ => False) w w' := by
  obtain ⟨N, hN⟩ : ∃ N, N = w.heap.size := ⟨_, rfl⟩
  obtain ⟨w0, hw0⟩ : ∃ w0, w0 = (w.alloc (.cells #[.int .i64 t.id, .int .i64 t.ver, .string t.nm, .slice ao t.cols.length c, .int .i64 t.key] 36)).alloc (.cells #[.int .i64 0, .int .i64 0, .string ⟨#[]⟩, .slice none 0 0, .int .i64 0] 36) := ⟨_, rfl⟩
  have t0 : Tch (fun _ => False) w w0 := by rw [hw0]; exact (Tch.alloc _ _ _).allocR _
  have q1 := sclone_any t.cols ao c w0 (h.no t0) hno hlen
  have Hw0 : Hid _ := hw0
  have HN : Hid (N = w.heap.size) := hN
  clear h hw0 hN
  go_enter Try.func51, Try.ntmps51
  go_wp2_with fail
  rw [← HN.out]
  have hw0 := Hw0.out
  rw [← hw0]
  clear hw0
  refine q1.mono ?_
  rintro x w1 ⟨⟨v, rfl, hv⟩, t1⟩
  clear q1
  obtain ⟨vo, vc, hvv⟩ := row_slice hv
  subst hvv
  have hs0 : w0.heap.size = N + 2 := by rw [Hw0.out, World.size_alloc, World.size_alloc, HN.out]
  have hX : w1.heap[N]? = some (.cells #[.int .i64 t.id, .int .i64 t.ver, .string t.nm, .slice ao t.cols.length c, .int .i64 t.key] 36 (0, 0)) := by
    rw [t1.block N (by omega) (fun h => h), Hw0.out, HN.out]
    exact (Tch.alloc (fun _ => False) _ _).block _ (by simp) (fun h => h) |>.trans (alloc_new _ _)
  have hY : w1.heap[N + 1]? = some (.cells #[.int .i64 0, .int .i64 0, .string ⟨#[]⟩, .slice none 0 0, .int .i64 0] 36 (0, 0)) := by
    rw [t1.block (N + 1) (by omega) (fun h => h), Hw0.out, HN.out, ← World.size_alloc]; exact alloc_new _ _
  obtain ⟨x0, x1, x2, x3, x4⟩ : w1.cell? ⟨N, 0, none⟩ = some (.int .i64 t.id) ∧ w1.cell? ⟨N, 1, none⟩ = some (.int .i64 t.ver) ∧ w1.cell? ⟨N, 2, none⟩ = some (.string t.nm) ∧ w1.cell? ⟨N, 3, none⟩ = some (.slice ao t.cols.length c) ∧ w1.cell? ⟨N, 4, none⟩ = some (.int .i64 t.key) := ⟨by rw [blk_cell hX]; rfl, by rw [blk_cell hX]; rfl, by rw [blk_cell hX]; rfl, by rw [blk_cell hX]; rfl, by rw [blk_cell hX]; rfl⟩
  obtain ⟨y0, y1, y2, y3, y4⟩ : w1.cell? ⟨N + 1, 0, none⟩ = some (.int .i64 0) ∧ w1.cell? ⟨N + 1, 1, none⟩ = some (.int .i64 0) ∧ w1.cell? ⟨N + 1, 2, none⟩ = some (.string ⟨#[]⟩) ∧ w1.cell? ⟨N + 1, 3, none⟩ = some (.slice none 0 0) ∧ w1.cell? ⟨N + 1, 4, none⟩ = some (.int .i64 0) := ⟨by rw [blk_cell hY]; rfl, by rw [blk_cell hY]; rfl, by rw [blk_cell hY]; rfl, by rw [blk_cell hY]; rfl, by rw [blk_cell hY]; rfl⟩
  have f3 := blk_frozen hX 3
  have g0 := blk_frozen hY 0; have g1 := blk_frozen hY 1; have g2 := blk_frozen hY 2; have g3 := blk_frozen hY 3; have g4 := blk_frozen hY 4
  have HV : Hid (∀ W, Tch (fun i => i = N ∨ i = N + 1) w1 W → W.ownsRow w.heap.size 43 3 (.slice vo t.cols.length vc) t.cols.length (ccl t.cols)) := fun W tW => own_low (own_tch hv tW (fun g e h => by have := row_ge hv e; omega)) t0.size
  have HT : Hid (∀ W, Tch (fun i => i = N ∨ i = N + 1) w1 W → Tch (fun _ => False) w W) := fun W tW => (t0.trans' t1).trans tW (fun i hi h => by have := HN.out; omega)
  clear hX hY hv hs0
  go_wp2_with fail
  have hrs : Try.f51.results = #[.cell 2 36] := by kernel_rfl
  refine bodyPost_ret (v := tA t.id t.ver t.nm (.slice vo t.cols.length vc) t.key) (by simp only [results, hrs]; go_simp) rfl ⟨⟨.slice vo t.cols.length vc, rfl, HV.out _ ?_⟩, HT.out _ ?_⟩
  all_goals exact (((((Tch.setCell (fun i => i = N ∨ i = N + 1) w1 ⟨N, 3, none⟩ _ (Or.inl rfl)).setCellR ⟨N + 1, 0, none⟩ _ (Or.inr rfl)).setCellR ⟨N + 1, 1, none⟩ _ (Or.inr rfl)).setCellR ⟨N + 1, 2, none⟩ _ (Or.inr rfl)).setCellR ⟨N + 1, 3, none⟩ _ (Or.inr rfl)).setCellR ⟨N + 1, 4, none⟩ _ (Or.inr rfl)
end Go.Proofs.Ytolamjipigfocaa
/- Lists of tables in the world; where a table of a name stands. -/
namespace Go.Proofs.Ytolamjipigfocaa
open Go.RowKit Go

def tcs (p : Tbl × Value) : List Value := [.int .i64 p.1.id, .int .i64 p.1.ver, .string p.1.nm, p.2, .int .i64 p.1.key]
def tcl (l : List (Tbl × Value)) : List Value := l.flatMap tcs
theorem tcl_len : ∀ l : List (Tbl × Value), (tcl l).length = l.length * 5
  | [] => rfl
  | a :: l => by
    have := tcl_len l
    unfold tcl at this ⊢
    simp only [List.flatMap_cons, List.length_append, this, List.length_cons]
    simp [tcs]; omega
theorem tcl_append (l m : List (Tbl × Value)) : tcl (l ++ m) = tcl l ++ tcl m := by simp [tcl]
theorem tcl_get : ∀ (l : List (Tbl × Value)) (k j : Nat) (hk : k < l.length), j < 5 → (tcl l)[k * 5 + j]? = (tcs l[k])[j]?
  | [], k, j, hk, _ => by simp at hk
  | a :: l, 0, j, _, hj => by
    unfold tcl
    rw [List.flatMap_cons, Nat.zero_mul, Nat.zero_add, List.getElem?_append_left (by simp [tcs]; omega)]; rfl
  | a :: l, k + 1, j, hk, hj => by
    have := tcl_get l k j (by simpa using hk) hj
    unfold tcl at this ⊢
    rw [List.flatMap_cons, List.getElem?_append_right (by simp [tcs]; omega)]
    simp only [List.getElem_cons_succ]
    rw [← this]
    congr 1
    simp [tcs]; omega
/-- A table's columns, for reading. -/
structure CK (W : World) (F : Nat → Prop) (p : Tbl × Value) (co : Option Addr) (cc : Nat) : Prop where
  eq : p.2 = .slice co p.1.cols.length cc
  sl : SL W co (ccl p.1.cols)
  no : co = none → p.1.cols = [] ∧ cc = 0
  cap : p.1.cols.length ≤ cc
  nf : p.1.cols ≠ [] → ∀ g o, co = some ⟨g, o, none⟩ → ¬ F g ∧ g < W.heap.size
/-- Tables, for reading: none of the blocks F is theirs. -/
structure TL (W : World) (F : Nat → Prop) (to : Option Addr) (P : List (Tbl × Value)) : Prop where
  sl : SL W to (tcl P)
  nf : P ≠ [] → ∀ g o, to = some ⟨g, o, none⟩ → ¬ F g
  col : ∀ i (hi : i < P.length), ∃ co cc, CK W F P[i] co cc
theorem CK.tch {S F : Nat → Prop} {W W' : World} {p : Tbl × Value} {co : Option Addr} {cc : Nat} (h : CK W F p co cc) (t : Tch S W W') (hS : ∀ i, i < W.heap.size → S i → F i) : CK W' F p co cc :=
  ⟨h.eq, fun hc => by
    obtain ⟨g, o, e, ha⟩ := h.sl hc
    have hne : p.1.cols ≠ [] := fun e0 => hc (by rw [e0]; rfl)
    exact ⟨g, o, e, ha.tch t (fun _ hs => (h.nf hne g o e).1 (hS g (h.nf hne g o e).2 hs))⟩, h.no, h.cap, fun hne g o e => ⟨(h.nf hne g o e).1, Nat.lt_of_lt_of_le (h.nf hne g o e).2 t.size⟩⟩
theorem tcl_nil {P : List (Tbl × Value)} (h : P ≠ []) : tcl P ≠ [] := fun e => by
  have := tcl_len P
  rw [e] at this
  have := List.length_pos_iff.2 h
  simp at *; omega
theorem TL.tch {S F : Nat → Prop} {W W' : World} {to : Option Addr} {P : List (Tbl × Value)} (h : TL W F to P) (t : Tch S W W') (hS : ∀ i, i < W.heap.size → S i → F i) : TL W' F to P := by
  refine ⟨fun hc => ?_, h.nf, fun i hi => ?_⟩
  · obtain ⟨g, o, e, ha⟩ := h.sl hc
    have hP : P ≠ [] := by rintro rfl; exact hc rfl
    exact ⟨g, o, e, ha.tch t (fun _ hs => h.nf hP g o e (hS g (ha.lt hc) hs))⟩
  · obtain ⟨co, cc, hck⟩ := h.col i hi
    exact ⟨co, cc, hck.tch t hS⟩
theorem TL.at {W : World} {F : Nat → Prop} {to : Option Addr} {P : List (Tbl × Value)} (h : TL W F to P) (k : Nat) (hk : k < P.length) : ∃ g o, to = some ⟨g, o, none⟩ ∧ W.cell? ⟨g, o + k * 5, none⟩ = some (.int .i64 P[k].1.id) ∧ W.cell? ⟨g, o + k * 5 + 1, none⟩ = some (.int .i64 P[k].1.ver) ∧ W.cell? ⟨g, o + k * 5 + 2, none⟩ = some (.string P[k].1.nm) ∧ W.cell? ⟨g, o + k * 5 + 3, none⟩ = some P[k].2 ∧ W.cell? ⟨g, o + k * 5 + 4, none⟩ = some (.int .i64 P[k].1.key) := by
  obtain ⟨g, o, e, ha⟩ := h.sl (tcl_nil (by rintro rfl; simp at hk))
  have key : ∀ j u, j < 5 → (tcs P[k])[j]? = some u → W.cell? ⟨g, o + k * 5 + j, none⟩ = some u := fun j u hj hu => by
    have := ha (k * 5 + j) u (by rw [tcl_get P k j hk hj]; exact hu)
    rwa [← Nat.add_assoc] at this
  exact ⟨g, o, e, key 0 _ (by omega) rfl, key 1 _ (by omega) rfl, key 2 _ (by omega) rfl, key 3 _ (by omega) rfl, key 4 _ (by omega) rfl⟩
/-- Where the first table stands that is so. -/
def posP (f : Tbl → Bool) : List (Tbl × Value) → Int
  | [] => -1
  | p :: l => if f p.1 then 0 else if posP f l < 0 then -1 else posP f l + 1
theorem posP_none {f : Tbl → Bool} : ∀ {l : List (Tbl × Value)}, (∀ i (h : i < l.length), f l[i].1 = false) → posP f l = -1
  | [], _ => rfl
  | p :: l, h => by
    have h0 := h 0 (by simp)
    have ih := posP_none (f := f) (l := l) (fun i hi => h (i + 1) (by simpa using hi))
    simp only [List.getElem_cons_zero] at h0
    unfold posP
    rw [h0, ih]; rfl
theorem posP_some {f : Tbl → Bool} : ∀ {l : List (Tbl × Value)} {k : Nat} (hk : k < l.length), f l[k].1 = true → (∀ i (h : i < l.length), i < k → f l[i].1 = false) → posP f l = k
  | [], k, hk, _, _ => by simp at hk
  | p :: l, 0, _, h, _ => by
    simp only [List.getElem_cons_zero] at h
    unfold posP
    rw [h]; rfl
  | p :: l, k + 1, hk, h, h2 => by
    have h0 := h2 0 (by simp) (by omega)
    simp only [List.getElem_cons_zero] at h0
    have ih := posP_some (f := f) (l := l) (k := k) (by simpa using hk) h (fun i hi hik => h2 (i + 1) (by simpa using hi) (by omega))
    unfold posP
    rw [h0, ih, if_neg (by simp), if_neg (by omega)]
    omega
theorem posP_cases (f : Tbl → Bool) (l : List (Tbl × Value)) : (posP f l = -1 ∧ ∀ i (h : i < l.length), f l[i].1 = false) ∨ ∃ k, ∃ (hk : k < l.length), posP f l = k ∧ f l[k].1 = true ∧ ∀ i (h : i < l.length), i < k → f l[i].1 = false := by
  induction l with
  | nil => exact Or.inl ⟨rfl, fun i h => by simp at h⟩
  | cons p l ih =>
    cases hp : f p.1 with
    | true => exact Or.inr ⟨0, by simp, posP_some (by simp) (by simpa using hp) (fun i h h2 => by omega), by simpa using hp, fun i h h2 => by omega⟩
    | false =>
      rcases ih with ⟨_, h2⟩ | ⟨k, hk, _, h2, h3⟩
      · have h4 : ∀ i (h : i < (p :: l).length), f (p :: l)[i].1 = false := fun i hi => by
          rcases i with _ | i
          · simpa using hp
          · simpa using h2 i (by simpa using hi)
        exact Or.inl ⟨posP_none h4, h4⟩
      · have h4 : ∀ i (h : i < (p :: l).length), i < k + 1 → f (p :: l)[i].1 = false := fun i hi hik => by
          rcases i with _ | i
          · simpa using hp
          · simpa using h3 i (by simpa using hi) (by omega)
        exact Or.inr ⟨k + 1, by simpa using hk, posP_some (by simpa using hk) (by simpa using h2) h4, by simpa using h2, h4⟩

set_option maxHeartbeats 1000000 in
set_option maxRecDepth 100000 in
theorem nm1_any (B : Nat) (nm : ByteArray) (t : Tbl) (v : Value) (w : World) (hB : w.cell? ⟨B, 0, none⟩ = some (.string nm)) (hv : ∃ ao n c, v = .slice ao n c) :
    Calls Try.prog 72 #[tA t.id t.ver t.nm v t.key, .pointer (some ⟨B, 0, none⟩)] w fun x w' => x = .returned (.bool (decide (t.nm = nm))) ∧ Tch (fun _ => False) w w' := by
  obtain ⟨ao, n, c, rfl⟩ := hv
  have hlt := cell_lt hB
  have hB1 : ∀ o, (w.alloc o).cell? ⟨B, 0, none⟩ = some (.string nm) := fun o => by rw [World.cell?_alloc_lt _ _ _ hlt]; exact hB
  by_cases h : t.nm = nm
  · have hd : decide (t.nm = nm) = true := by simp [h]
    rw [hd]
    subst h
    go_enter Try.func72, Try.ntmps72
    go_wp2
    go_ret
    exact ⟨rfl, Tch.alloc _ _ _⟩
  · have hd : decide (t.nm = nm) = false := by simp [h]
    have hne := str_ne h
    rw [hd]
    clear h hd
    go_enter Try.func72, Try.ntmps72
    go_wp2
    go_ret
    exact ⟨rfl, Tch.alloc _ _ _⟩
set_option maxHeartbeats 1000000 in
set_option maxRecDepth 100000 in
theorem nm2_any (B : Nat) (nm : ByteArray) (to : Option Addr) (tc : Nat) (P : List (Tbl × Value)) (F : Nat → Prop) (w : World) (hB : w.cell? ⟨B, 0, none⟩ = some (.string nm)) (hT : TL w F to P) (hl : P.length ≤ 16) :
    Calls Try.prog 71 #[.slice to P.length tc, .func (.func 72) #[] #[.pointer (some ⟨B, 0, none⟩)]] w fun x w' => x = .returned (.int .i64 (posP (fun t => decide (t.nm = nm)) P)) ∧ Tch (fun _ => False) w w' := by
  have HT : Hid (∀ W, Tch (fun _ => False) w W → TL W F to P ∧ W.cell? ⟨B, 0, none⟩ = some (.string nm)) := fun W tW => ⟨hT.tch tW (fun _ _ h => h.elim), (tW.cell (p := ⟨B, 0, none⟩) (cell_lt hB) (fun h => h)).trans hB⟩
  have hlI : (P.length : Int) ≤ 16 := by omega
  obtain ⟨r, hr⟩ : ∃ r, r = posP (fun t => decide (t.nm = nm)) P := ⟨_, rfl⟩
  have HR : Hid (r = posP (fun t => decide (t.nm = nm)) P) := hr
  rw [← hr]
  clear hB hT hr
  go_enter Try.func71, Try.ntmps71
  go_wp2_with fail
  go_loopw [8] (fun i wr => ∃ k : Nat, i = .int .i64 k ∧ k ≤ P.length ∧ Tch (fun _ => False) w wr ∧ Hid (∀ j (h : j < P.length), j < k → decide ((fun t : Tbl => t.nm) P[j].1 = nm) = false)) (fun i _ => P.length - (intOf i).toNat)
  case atStart => exact ⟨0, rfl, by omega, Tch.refl _ _, fun _ _ h => by omega⟩
  case round =>
    obtain ⟨k, rfl, hk, hT, HK⟩ := hrel
    by_cases hlt : (k : Int) < P.length
    · have hkl : k < P.length := by omega
      obtain ⟨hTL, hBc⟩ := HT.out _ hT
      obtain ⟨g, o, rfl, c0, c1, c2, c3, c4⟩ := hTL.at k hkl
      obtain ⟨co, cc, hck⟩ := hTL.col k hkl
      obtain ⟨p, hp⟩ : ∃ p, p = P[k] := ⟨_, rfl⟩
      rw [← hp] at c0 c1 c2 c3 c4 hck
      rw [hck.eq] at c3
      have q := nm1_any B nm p.1 (.slice co p.1.cols.length cc) wr hBc ⟨_, _, _, rfl⟩
      have Hp : Hid (p = P[k]) := hp
      obtain ⟨d, hd⟩ : ∃ d, d = decide (p.1.nm = nm) := ⟨_, rfl⟩
      rw [← hd] at q
      have HD : Hid (d = decide (p.1.nm = nm)) := hd
      clear hTL hck hp hd
      cases d with
      | true =>
        have HE : Hid (r = k) := by
          show _ = _
          rw [HR.out]
          exact posP_some hkl (by rw [← Hp.out]; exact HD.out.symm) (fun i hi hik => HK.out i hi hik)
        go_wp2_with (go_at_call 72; refine q.mono ?_; rintro y w1 ⟨rfl, t1⟩)
        go_ret
        exact ⟨by rw [HE.out]; rfl, hT.trans' t1⟩
      | false =>
        have HE : Hid (∀ j (h : j < P.length), j < k + 1 → decide ((fun t : Tbl => t.nm) P[j].1 = nm) = false) := fun j hj hjk => by
          rcases Nat.lt_or_ge j k with h1 | h1
          · exact HK.out j hj h1
          · obtain rfl : j = k := by omega
            rw [← Hp.out]; exact HD.out.symm
        go_wp2_with (go_at_call 72; refine q.mono ?_; rintro y w1 ⟨rfl, t1⟩)
        go_roundw
        case rel => exact ⟨k + 1, by go_num, by omega, hT.trans' t1, HE⟩
        case measure => simp [intOf]; omega
    · have HE : Hid (r = -1) := by
        show _ = _
        rw [HR.out]
        exact posP_none (fun i hi => HK.out i hi (by omega))
      go_wp2_with fail
      go_ret
      exact ⟨by rw [HE.out]; rfl, hT⟩
set_option maxHeartbeats 1000000 in
set_option maxRecDepth 100000 in
theorem nm3_any (b : Nat) (to : Option Addr) (tc : Nat) (P : List (Tbl × Value)) (F : Nat → Prop) (nm : ByteArray) (w : World) (hb : w.cell? ⟨b, 0, none⟩ = some (.slice to P.length tc)) (hT : TL w F to P) (hl : P.length ≤ 16) :
    Calls Try.prog 55 #[.pointer (some ⟨b, 0, none⟩), .string nm] w fun x w' => x = .returned (.int .i64 (posP (fun t => decide (t.nm = nm)) P)) ∧ Tch (fun _ => False) w w' := by
  have hlt := cell_lt hb
  have hb1 : ∀ o, (w.alloc o).cell? ⟨b, 0, none⟩ = some (.slice to P.length tc) := fun o => by rw [World.cell?_alloc_lt _ _ _ hlt]; exact hb
  have q := nm2_any w.heap.size nm to tc P F (w.alloc (.cells #[.string nm] 9)) (by simp) (hT.tch (Tch.alloc (fun _ => False) _ _) (fun _ _ h => h.elim)) hl
  clear hT hb
  go_enter Try.func55, Try.ntmps55
  go_wp2_with (go_at_call 71; refine q.mono ?_; rintro y w1 ⟨rfl, t1⟩)
  go_ret
  exact ⟨rfl, (Tch.alloc _ _ _).trans' t1⟩

set_option maxHeartbeats 1000000 in
set_option maxRecDepth 100000 in
theorem id1_any (B : Nat) (id : Int) (t : Tbl) (v : Value) (w : World) (hB : w.cell? ⟨B, 0, none⟩ = some (.int .i64 id)) (hv : ∃ ao n c, v = .slice ao n c) :
    Calls Try.prog 73 #[tA t.id t.ver t.nm v t.key, .pointer (some ⟨B, 0, none⟩)] w fun x w' => x = .returned (.bool (decide (t.id = id))) ∧ Tch (fun _ => False) w w' := by
  obtain ⟨ao, n, c, rfl⟩ := hv
  have hlt := cell_lt hB
  have hB1 : ∀ o, (w.alloc o).cell? ⟨B, 0, none⟩ = some (.int .i64 id) := fun o => by rw [World.cell?_alloc_lt _ _ _ hlt]; exact hB
  by_cases h : t.id = id
  · have hd : decide (t.id = id) = true := by simp [h]
    rw [hd]
    subst h
    go_enter Try.func73, Try.ntmps73
    go_wp2
    go_ret
    exact ⟨rfl, Tch.alloc _ _ _⟩
  · have hd : decide (t.id = id) = false := by simp [h]
    have hne := beq_eq_false_iff_ne.2 h
    rw [hd]
    clear h hd
    go_enter Try.func73, Try.ntmps73
    go_wp2
    go_ret
    exact ⟨rfl, Tch.alloc _ _ _⟩
set_option maxHeartbeats 1000000 in
set_option maxRecDepth 100000 in
theorem id2_any (B : Nat) (id : Int) (to : Option Addr) (tc : Nat) (P : List (Tbl × Value)) (F : Nat → Prop) (w : World) (hB : w.cell? ⟨B, 0, none⟩ = some (.int .i64 id)) (hT : TL w F to P) (hl : P.length ≤ 16) :
    Calls Try.prog 71 #[.slice to P.length tc, .func (.func 73) #[] #[.pointer (some ⟨B, 0, none⟩)]] w fun x w' => x = .returned (.int .i64 (posP (fun t => decide (t.id = id)) P)) ∧ Tch (fun _ => False) w w' := by
  have HT : Hid (∀ W, Tch (fun _ => False) w W → TL W F to P ∧ W.cell? ⟨B, 0, none⟩ = some (.int .i64 id)) := fun W tW => ⟨hT.tch tW (fun _ _ h => h.elim), (tW.cell (p := ⟨B, 0, none⟩) (cell_lt hB) (fun h => h)).trans hB⟩
  have hlI : (P.length : Int) ≤ 16 := by omega
  obtain ⟨r, hr⟩ : ∃ r, r = posP (fun t => decide (t.id = id)) P := ⟨_, rfl⟩
  have HR : Hid (r = posP (fun t => decide (t.id = id)) P) := hr
  rw [← hr]
  clear hB hT hr
  go_enter Try.func71, Try.ntmps71
  go_wp2_with fail
  go_loopw [8] (fun i wr => ∃ k : Nat, i = .int .i64 k ∧ k ≤ P.length ∧ Tch (fun _ => False) w wr ∧ Hid (∀ j (h : j < P.length), j < k → decide ((fun t : Tbl => t.id) P[j].1 = id) = false)) (fun i _ => P.length - (intOf i).toNat)
  case atStart => exact ⟨0, rfl, by omega, Tch.refl _ _, fun _ _ h => by omega⟩
  case round =>
    obtain ⟨k, rfl, hk, hT, HK⟩ := hrel
    by_cases hlt : (k : Int) < P.length
    · have hkl : k < P.length := by omega
      obtain ⟨hTL, hBc⟩ := HT.out _ hT
      obtain ⟨g, o, rfl, c0, c1, c2, c3, c4⟩ := hTL.at k hkl
      obtain ⟨co, cc, hck⟩ := hTL.col k hkl
      obtain ⟨p, hp⟩ : ∃ p, p = P[k] := ⟨_, rfl⟩
      rw [← hp] at c0 c1 c2 c3 c4 hck
      rw [hck.eq] at c3
      have q := id1_any B id p.1 (.slice co p.1.cols.length cc) wr hBc ⟨_, _, _, rfl⟩
      have Hp : Hid (p = P[k]) := hp
      obtain ⟨d, hd⟩ : ∃ d, d = decide (p.1.id = id) := ⟨_, rfl⟩
      rw [← hd] at q
      have HD : Hid (d = decide (p.1.id = id)) := hd
      clear hTL hck hp hd
      cases d with
      | true =>
        have HE : Hid (r = k) := by
          show _ = _
          rw [HR.out]
          exact posP_some hkl (by rw [← Hp.out]; exact HD.out.symm) (fun i hi hik => HK.out i hi hik)
        go_wp2_with (go_at_call 73; refine q.mono ?_; rintro y w1 ⟨rfl, t1⟩)
        go_ret
        exact ⟨by rw [HE.out]; rfl, hT.trans' t1⟩
      | false =>
        have HE : Hid (∀ j (h : j < P.length), j < k + 1 → decide ((fun t : Tbl => t.id) P[j].1 = id) = false) := fun j hj hjk => by
          rcases Nat.lt_or_ge j k with h1 | h1
          · exact HK.out j hj h1
          · obtain rfl : j = k := by omega
            rw [← Hp.out]; exact HD.out.symm
        go_wp2_with (go_at_call 73; refine q.mono ?_; rintro y w1 ⟨rfl, t1⟩)
        go_roundw
        case rel => exact ⟨k + 1, by go_num, by omega, hT.trans' t1, HE⟩
        case measure => simp [intOf]; omega
    · have HE : Hid (r = -1) := by
        show _ = _
        rw [HR.out]
        exact posP_none (fun i hi => HK.out i hi (by omega))
      go_wp2_with fail
      go_ret
      exact ⟨by rw [HE.out]; rfl, hT⟩
set_option maxHeartbeats 1000000 in
set_option maxRecDepth 100000 in
theorem id3_any (b : Nat) (to : Option Addr) (tc : Nat) (P : List (Tbl × Value)) (F : Nat → Prop) (id : Int) (w : World) (hb : w.cell? ⟨b, 0, none⟩ = some (.slice to P.length tc)) (hT : TL w F to P) (hl : P.length ≤ 16) :
    Calls Try.prog 56 #[.pointer (some ⟨b, 0, none⟩), .int .i64 id] w fun x w' => x = .returned (.int .i64 (posP (fun t => decide (t.id = id)) P)) ∧ Tch (fun _ => False) w w' := by
  have hlt := cell_lt hb
  have hb1 : ∀ o, (w.alloc o).cell? ⟨b, 0, none⟩ = some (.slice to P.length tc) := fun o => by rw [World.cell?_alloc_lt _ _ _ hlt]; exact hb
  have q := id2_any w.heap.size id to tc P F (w.alloc (.cells #[.int .i64 id] 3)) (by simp) (hT.tch (Tch.alloc (fun _ => False) _ _) (fun _ _ h => h.elim)) hl
  clear hT hb
  go_enter Try.func56, Try.ntmps56
  go_wp2_with (go_at_call 71; refine q.mono ?_; rintro y w1 ⟨rfl, t1⟩)
  go_ret
  exact ⟨rfl, (Tch.alloc _ _ _).trans' t1⟩
end Go.Proofs.Ytolamjipigfocaa
/- List, Clone of the code. -/
namespace Go.Proofs.Ytolamjipigfocaa
open Go.RowKit Go

/-- Tables of one's own: their blocks are apart. -/
structure TO (W : World) (base : Nat) (tv : Value) (P : List (Tbl × Value)) : Prop where
  own : W.ownsRow base 36 5 tv P.length (tcl P)
  col : ∀ i (hi : i < P.length), W.ownsRow base 43 3 P[i].2 P[i].1.cols.length (ccl P[i].1.cols)
  sep : ∀ i (hi : i < P.length) g, P[i].2.ownBlock = some g → tv.ownBlock ≠ some g
  dis : ∀ i j (hi : i < P.length) (hj : j < P.length) g, i ≠ j → P[i].2.ownBlock = some g → P[j].2.ownBlock ≠ some g
theorem own_none {W : World} {base sz n : Nat} {t : TypeId} {c : Nat} {xs : List Value} (h : W.ownsRow base t sz (.slice none n c) n xs) : n = 0 ∧ c = 0 ∧ xs = [] := by
  rcases h.2 with ⟨h1, h2⟩ | ⟨g, c', cur, h1, _⟩
  · injection h1 with _ _ h3
    exact ⟨h2, h3, List.eq_nil_of_length_eq_zero (by rw [h.1, h2]; simp)⟩
  · injection h1 with h1; cases h1
theorem own_cap {W : World} {base sz n : Nat} {t : TypeId} {ao : Option Addr} {c : Nat} {xs : List Value} (h : W.ownsRow base t sz (.slice ao n c) n xs) : n ≤ c := by
  rcases h.2 with ⟨h1, h2⟩ | ⟨g, c', cur, h1, _, _, h3, _⟩
  · omega
  · injection h1 with _ _ h4; omega
theorem own_ck {W : World} {base : Nat} {p : Tbl × Value} (h : W.ownsRow base 43 3 p.2 p.1.cols.length (ccl p.1.cols)) : ∃ co cc, CK W (fun i => i < base) p co cc := by
  obtain ⟨co, cc, e⟩ := row_slice h
  have h' := h
  rw [e] at h'
  refine ⟨co, cc, e, own_sl h', fun e2 => ?_, own_cap h', fun _ g o e2 => ?_⟩
  · subst e2
    obtain ⟨h1, h2, _⟩ := own_none h'
    exact ⟨List.eq_nil_of_length_eq_zero h1, h2⟩
  · have := h'.lt g (by rw [e2]; rfl)
    omega
theorem TO.toTL {W : World} {base : Nat} {to : Option Addr} {tc : Nat} {P : List (Tbl × Value)} (h : TO W base (.slice to P.length tc) P) : TL W (fun i => i < base) to P :=
  ⟨own_sl h.own, fun _ g o e => by have := h.own.lt g (by rw [e]; rfl); omega, fun i hi => own_ck (h.col i hi)⟩
theorem TO.tch {S : Nat → Prop} {W W' : World} {base : Nat} {tv : Value} {P : List (Tbl × Value)} (h : TO W base tv P) (t : Tch S W W') (hS : ∀ i, base ≤ i → i < W.heap.size → ¬ S i) : TO W' base tv P :=
  ⟨own_tch h.own t (fun g e => hS g (h.own.lt g e).1 (h.own.lt g e).2), fun i hi => own_tch (h.col i hi) t (fun g e => hS g ((h.col i hi).lt g e).1 ((h.col i hi).lt g e).2), h.sep, h.dis⟩
theorem set5_step (cur : Array Value) (q n : Nat) (L : List Value) (a b c d e : Value) (hs : cur.size = n * 5) (hq : q < n) (hL : L.length = q * 5) (h : cur.toList.take (q * 5) = L) : (((((cur.setIfInBounds (q * 5) a).setIfInBounds (q * 5 + 1) b).setIfInBounds (q * 5 + 2) c).setIfInBounds (q * 5 + 3) d).setIfInBounds (q * 5 + 4) e).toList.take ((q + 1) * 5) = L ++ [a, b, c, d, e] := by
  apply List.ext_getElem?
  intro j
  rw [List.getElem?_take]
  rcases Nat.lt_or_ge j (q * 5) with h1 | h1
  · rw [if_pos (by omega), List.getElem?_append_left (by omega), ← h, List.getElem?_take, if_pos h1, Array.getElem?_toList, Array.getElem?_toList, Array.getElem?_setIfInBounds_ne (by omega), Array.getElem?_setIfInBounds_ne (by omega), Array.getElem?_setIfInBounds_ne (by omega), Array.getElem?_setIfInBounds_ne (by omega), Array.getElem?_setIfInBounds_ne (by omega)]
  · rw [List.getElem?_append_right (by omega), hL]
    rcases Nat.lt_or_ge j ((q + 1) * 5) with h2 | h2
    · rw [if_pos h2, Array.getElem?_toList]
      rcases (by omega : j = q * 5 ∨ j = q * 5 + 1 ∨ j = q * 5 + 2 ∨ j = q * 5 + 3 ∨ j = q * 5 + 4) with rfl | rfl | rfl | rfl | rfl
      · rw [Array.getElem?_setIfInBounds_ne (by omega), Array.getElem?_setIfInBounds_ne (by omega), Array.getElem?_setIfInBounds_ne (by omega), Array.getElem?_setIfInBounds_ne (by omega), Array.getElem?_setIfInBounds_self_of_lt (by omega), Nat.sub_self]; rfl
      · rw [Array.getElem?_setIfInBounds_ne (by omega), Array.getElem?_setIfInBounds_ne (by omega), Array.getElem?_setIfInBounds_ne (by omega), Array.getElem?_setIfInBounds_self_of_lt (by simp; omega), show q * 5 + 1 - q * 5 = 1 by omega]; rfl
      · rw [Array.getElem?_setIfInBounds_ne (by omega), Array.getElem?_setIfInBounds_ne (by omega), Array.getElem?_setIfInBounds_self_of_lt (by simp; omega), show q * 5 + 2 - q * 5 = 2 by omega]; rfl
      · rw [Array.getElem?_setIfInBounds_ne (by omega), Array.getElem?_setIfInBounds_self_of_lt (by simp; omega), show q * 5 + 3 - q * 5 = 3 by omega]; rfl
      · rw [Array.getElem?_setIfInBounds_self_of_lt (by simp; omega), show q * 5 + 4 - q * 5 = 4 by omega]; rfl
    · rw [if_neg (by omega), List.getElem?_eq_none (by simp; omega)]
theorem set5_cells {W : World} {g n q : Nat} {t : TypeId} {cur : Array Value} (hh : W.heap[g]? = some (.cells cur t (0, 0))) (hs : cur.size = n * 5) (hq : q < n) (v0 v1 v2 v3 : Value) :
    (∃ y, W.cell? ⟨g, q * 5, none⟩ = some y) ∧ (∃ y, (W.setCell ⟨g, q * 5, none⟩ v0).cell? ⟨g, q * 5 + 1, none⟩ = some y) ∧ (∃ y, ((W.setCell ⟨g, q * 5, none⟩ v0).setCell ⟨g, q * 5 + 1, none⟩ v1).cell? ⟨g, q * 5 + 2, none⟩ = some y) ∧ (∃ y, (((W.setCell ⟨g, q * 5, none⟩ v0).setCell ⟨g, q * 5 + 1, none⟩ v1).setCell ⟨g, q * 5 + 2, none⟩ v2).cell? ⟨g, q * 5 + 3, none⟩ = some y) ∧ (∃ y, ((((W.setCell ⟨g, q * 5, none⟩ v0).setCell ⟨g, q * 5 + 1, none⟩ v1).setCell ⟨g, q * 5 + 2, none⟩ v2).setCell ⟨g, q * 5 + 3, none⟩ v3).cell? ⟨g, q * 5 + 4, none⟩ = some y) ∧ ∀ j, W.frozen? ⟨g, j, none⟩ = false := by
  have key : ∀ (W' : World) (j : Nat), j < 5 → (∀ i, W'.heap[g]? = some (.cells i t (0, 0)) → i.size = n * 5 → True) → (∃ cu, W'.heap[g]? = some (.cells cu t (0, 0)) ∧ cu.size = n * 5) → ∃ y, W'.cell? ⟨g, q * 5 + j, none⟩ = some y := fun W' j hj _ ⟨cu, h1, h2⟩ => ⟨cu[q * 5 + j]'(by omega), by rw [blk_cell h1]; exact Array.getElem?_eq_getElem _⟩
  have s0 := hh
  have s1 := blk_set (i := q * 5) s0 v0
  have s2 := blk_set (i := q * 5 + 1) s1 v1
  have s3 := blk_set (i := q * 5 + 2) s2 v2
  have s4 := blk_set (i := q * 5 + 3) s3 v3
  exact ⟨key _ 0 (by omega) (fun _ _ _ => trivial) ⟨_, s0, hs⟩, key _ 1 (by omega) (fun _ _ _ => trivial) ⟨_, s1, by simp [hs]⟩, key _ 2 (by omega) (fun _ _ _ => trivial) ⟨_, s2, by simp [hs]⟩, key _ 3 (by omega) (fun _ _ _ => trivial) ⟨_, s3, by simp [hs]⟩, key _ 4 (by omega) (fun _ _ _ => trivial) ⟨_, s4, by simp [hs]⟩, fun j => blk_frozen hh j⟩
theorem info_tbl : (Try.prog.info? 36).map (fun i => (i.zero, i.size, i.bytes)) = some (some (.agg #[.int .i64 0, .int .i64 0, .string ⟨#[]⟩, .slice none 0 0, .int .i64 0]), 5, 64) := by kernel_rfl
theorem make_tbl (n : Nat) (w : World) (hn : n ≤ 1000) :
    (Instr.makeSlice 37 (.int .i64 (n : Int)) (.int .i64 (n : Int))).run Try.prog w = .ok (.slice (some ⟨w.heap.size, 0, none⟩) n n) (w.alloc (.cells (madeCells #[.int .i64 0, .int .i64 0, .string ⟨#[]⟩, .slice none 0 0, .int .i64 0] (n * 5)) 36)) := by
  obtain ⟨i0, hi, hz0, hz1, hz2⟩ := info_parts info_tbl
  have h := run_make (P := Try.prog) w 37 36 i0 (.agg #[.int .i64 0, .int .i64 0, .string ⟨#[]⟩, .slice none 0 0, .int .i64 0]) Try.underlying37 hi hz0 .i64 .i64 n n (by omega) (Int.le_refl _) (by rw [hz2]; omega) (by omega)
  simpa [hz1, Value.cells] using h
/-- The first so many of a list of tables. -/
structure LP (W : World) (base R n k : Nat) (P Q : List (Tbl × Value)) : Prop where
  len : Q.length = k
  eq : Q.map Prod.fst = (P.take k).map Prod.fst
  blk : ∃ cur : Array Value, W.heap[R]? = some (.cells cur 36 (0, 0)) ∧ cur.size = n * 5 ∧ cur.toList.take (k * 5) = tcl Q
  col : ∀ i (hi : i < Q.length), W.ownsRow base 43 3 Q[i].2 Q[i].1.cols.length (ccl Q[i].1.cols)
  sep : ∀ i (hi : i < Q.length) g, Q[i].2.ownBlock = some g → g ≠ R
  dis : ∀ i j (hi : i < Q.length) (hj : j < Q.length) g, i ≠ j → Q[i].2.ownBlock = some g → Q[j].2.ownBlock ≠ some g
theorem LP.tch {S : Nat → Prop} {W W' : World} {base R n k : Nat} {P Q : List (Tbl × Value)} (h : LP W base R n k P Q) (t : Tch S W W') (hS : ∀ i, i < W.heap.size → ¬ S i) : LP W' base R n k P Q := by
  obtain ⟨cur, h1, h2⟩ := h.blk
  exact ⟨h.len, h.eq, ⟨cur, by rw [t.block R (blk_lt h1) (hS R (blk_lt h1))]; exact h1, h2⟩, fun i hi => own_tch (h.col i hi) t (fun g e => hS g ((h.col i hi).lt g e).2), h.sep, h.dis⟩
theorem LP.step {W W' : World} {base R n k : Nat} {P Q : List (Tbl × Value)} (h : LP W base R n k P Q) (hk : k < P.length) (hn : k < n) (t : Tch (fun _ => False) W W') {v : Value} {t0 : Tbl} (ht : t0 = P[k].1) (hv : W'.ownsRow W.heap.size 43 3 v t0.cols.length (ccl t0.cols)) (hb : base ≤ W.heap.size) :
    LP (((((W'.setCell ⟨R, k * 5, none⟩ (.int .i64 t0.id)).setCell ⟨R, k * 5 + 1, none⟩ (.int .i64 t0.ver)).setCell ⟨R, k * 5 + 2, none⟩ (.string t0.nm)).setCell ⟨R, k * 5 + 3, none⟩ v).setCell ⟨R, k * 5 + 4, none⟩ (.int .i64 t0.key)) base R n (k + 1) P (Q ++ [(t0, v)]) := by
  have h' := h.tch t (fun _ _ h => h)
  obtain ⟨cur, h1, h2, h3⟩ := h'.blk
  have hRl : R < W.heap.size := by obtain ⟨c, hc, _⟩ := h.blk; exact blk_lt hc
  have T : Tch (fun i => i = R) W' (((((W'.setCell ⟨R, k * 5, none⟩ (.int .i64 t0.id)).setCell ⟨R, k * 5 + 1, none⟩ (.int .i64 t0.ver)).setCell ⟨R, k * 5 + 2, none⟩ (.string t0.nm)).setCell ⟨R, k * 5 + 3, none⟩ v).setCell ⟨R, k * 5 + 4, none⟩ (.int .i64 t0.key)) := ((((Tch.setCell (fun i => i = R) W' ⟨R, k * 5, none⟩ _ rfl).setCellR ⟨R, k * 5 + 1, none⟩ _ rfl).setCellR ⟨R, k * 5 + 2, none⟩ _ rfl).setCellR ⟨R, k * 5 + 3, none⟩ _ rfl).setCellR ⟨R, k * 5 + 4, none⟩ _ rfl
  have hlt : ∀ i (hi : i < Q.length) g, Q[i].2.ownBlock = some g → g < W.heap.size := fun i hi g e => ((h.col i hi).lt g e).2
  have hge : ∀ g, v.ownBlock = some g → W.heap.size ≤ g := fun g e => (hv.lt g e).1
  have hgetL : ∀ i (hi : i < Q.length) (hi' : i < (Q ++ [(t0, v)]).length), (Q ++ [(t0, v)])[i] = Q[i] := fun i hi hi' => List.getElem_append_left hi
  have hgetR : ∀ (hi' : Q.length < (Q ++ [(t0, v)]).length), (Q ++ [(t0, v)])[Q.length] = (t0, v) := fun hi' => by simp
  refine ⟨by simp [h.len], ?_, ⟨_, blk_set (blk_set (blk_set (blk_set (blk_set h1 _) _) _) _) _, by simp [h2], ?_⟩, fun i hi => ?_, fun i hi g e => ?_, fun i j hi hj g hij e1 e2 => ?_⟩
  · rw [List.map_append, h.eq, ← List.take_append_getElem hk, List.map_append, ht]; rfl
  · rw [set5_step cur k n (tcl Q) _ _ _ _ _ h2 hn (by rw [tcl_len, h.len]) h3, tcl_append]; rfl
  · rw [List.length_append, List.length_singleton] at hi
    rcases Nat.lt_or_ge i Q.length with hl | hl
    · rw [hgetL i hl]
      exact own_tch (h'.col i hl) T (h.sep i hl)
    · obtain rfl : i = Q.length := by omega
      rw [hgetR]
      exact own_low (own_tch hv T (fun g e he => by have := hge g e; omega)) hb
  · rw [List.length_append, List.length_singleton] at hi
    rcases Nat.lt_or_ge i Q.length with hl | hl
    · rw [hgetL i hl] at e; exact h.sep i hl g e
    · obtain rfl : i = Q.length := by omega
      rw [hgetR] at e; have := hge g e; omega
  · rw [List.length_append, List.length_singleton] at hi hj
    rcases Nat.lt_or_ge i Q.length with hl | hl <;> rcases Nat.lt_or_ge j Q.length with hm | hm
    · rw [hgetL i hl] at e1; rw [hgetL j hm] at e2; exact h.dis i j hl hm g hij e1 e2
    · obtain rfl : j = Q.length := by omega
      rw [hgetL i hl] at e1; rw [hgetR] at e2; have := hlt i hl g e1; have := hge g e2; omega
    · obtain rfl : i = Q.length := by omega
      rw [hgetR] at e1; rw [hgetL j hm] at e2; have := hlt j hm g e2; have := hge g e1; omega
    · omega
end Go.Proofs.Ytolamjipigfocaa
/- List, Clone of the code: the walks. -/
namespace Go.Proofs.Ytolamjipigfocaa
open Go.RowKit Go

/-- What List gives, what Clone gives. -/
def ListOut (L : List Tbl) (base : Nat) (x : Ending) (w' : World) : Prop := ∃ tv Q, x = .returned tv ∧ Q.map Prod.fst = L ∧ TO w' base tv Q
set_option maxHeartbeats 2000000 in
set_option maxRecDepth 100000 in
theorem list_any (b : Nat) (to : Option Addr) (tc : Nat) (P : List (Tbl × Value)) (F : Nat → Prop) (w : World) (hb : w.cell? ⟨b, 0, none⟩ = some (.slice to P.length tc)) (hT : TL w F to P) (hl : P.length ≤ 16) (h8 : ∀ i (hi : i < P.length), P[i].1.cols.length ≤ 8) :
    Calls Try.prog 27 #[.pointer (some ⟨b, 0, none⟩)] w fun x w' => ListOut (P.map Prod.fst) w.heap.size x w' ∧ Tch (fun _ => False) w w' := by
  obtain ⟨n, hn⟩ : ∃ n, n = P.length := ⟨_, rfl⟩
  obtain ⟨R, hR⟩ : ∃ R, R = w.heap.size := ⟨_, rfl⟩
  have hmk := make_tbl n w (by omega)
  obtain ⟨w1, hw1⟩ : ∃ w1, w1 = w.alloc (.cells (madeCells #[.int .i64 0, .int .i64 0, .string ⟨#[]⟩, .slice none 0 0, .int .i64 0] (n * 5)) 36) := ⟨_, rfl⟩
  rw [← hw1, ← hR] at hmk
  have t1 : Tch (fun _ => False) w w1 := by rw [hw1]; exact Tch.alloc _ _ _
  have HL1 : Hid (LP w1 R R n 0 P []) := ⟨rfl, rfl, ⟨_, by rw [hw1, hR]; exact alloc_new _ _, size_madeCells _ _, rfl⟩, fun i hi => by simp at hi, fun i hi => by simp at hi, fun i j hi => by simp at hi⟩
  have HTL : Hid (∀ W, Tch (fun i => i = R) w1 W → TL W F to P ∧ Tch (fun _ => False) w W) := fun W tW => by
    have h1 : Tch (fun _ => False) w W := t1.trans tW (fun i hi h => by omega)
    exact ⟨hT.tch h1 (fun _ _ h => h.elim), h1⟩
  have H8 : Hid _ := h8
  have Hn : Hid (n = P.length) := hn
  have HR : Hid (R = w.heap.size) := hR
  have hnI : (n : Int) ≤ 16 := by omega
  have hb1 : w1.cell? ⟨b, 0, none⟩ = some (.slice to P.length tc) := by rw [t1.cell (p := ⟨b, 0, none⟩) (cell_lt hb) (fun h => h)]; exact hb
  have HR1 : Hid (R < w1.heap.size) := by rw [hw1, hR, World.size_alloc]; show _ < _; omega
  rw [← hR]
  rw [← hn] at hb hb1
  clear hw1 hT h8 hn hR
  go_enter Try.func27, Try.ntmps27
  go_wp2_with fail
  clear hmk hb hb1
  go_loopw [17] (fun i wr => ∃ (k : Nat) (Q : List (Tbl × Value)), i = .int .i64 k ∧ k ≤ n ∧ Hid (LP wr R R n k P Q) ∧ Hid (Tch (fun i => i = R) w1 wr)) (fun i _ => n - (intOf i).toNat)
  case atStart => exact ⟨0, [], rfl, by omega, HL1, Tch.refl _ _⟩
  case round =>
    clear HL1
    obtain ⟨k, Q, rfl, hk, HL, HT⟩ := hrel
    by_cases hlt : (k : Int) < n
    · have hkP : k < P.length := by have := Hn.out; omega
      obtain ⟨hTL, hTw⟩ := HTL.out _ HT.out
      obtain ⟨g, o, rfl, c0, c1, c2, c3, c4⟩ := hTL.at k hkP
      obtain ⟨co, cc, hck⟩ := hTL.col k hkP
      obtain ⟨p, hp⟩ : ∃ p, p = P[k] := ⟨_, rfl⟩
      rw [← hp] at c0 c1 c2 c3 c4 hck
      rw [hck.eq] at c3
      have hp8 : p.1.cols.length ≤ 8 := by rw [hp]; exact H8.out k hkP
      obtain ⟨wa, hwa⟩ : ∃ wa, wa = wr.alloc (.cells #[.int .i64 p.1.id, .int .i64 p.1.ver, .string p.1.nm, .slice co p.1.cols.length cc, .int .i64 p.1.key] 36) := ⟨_, rfl⟩
      have ta : Tch (fun _ => False) wr wa := by rw [hwa]; exact Tch.alloc _ _ _
      have q := copied_any p.1 co cc wa (hck.sl.no ta) hck.no (by omega)
      have Hwa : Hid _ := hwa
      have Hp : Hid (p = P[k]) := hp
      have Hta : Hid _ := ta
      have HRl : Hid (R < wr.heap.size) := Nat.lt_of_lt_of_le HR1.out HT.out.size
      clear hTL hck hp hwa ta
      go_wp2_with fail
      have hwa := Hwa.out
      rw [← hwa]
      clear hwa c0 c1 c2 c3 c4
      refine q.mono ?_
      rintro y w2 ⟨⟨v, rfl, hv⟩, t2⟩
      clear q
      obtain ⟨vo, vc, hvv⟩ := row_slice hv
      subst hvv
      have T2 : Tch (fun _ => False) wr w2 := Hta.out.trans' t2
      have HL2 : Hid _ := HL.out.step hkP (by omega) T2 (v := .slice vo p.1.cols.length vc) (t0 := p.1) (by rw [← Hp.out]) (own_low hv (by exact Hta.out.size)) (by have := HRl.out; omega)
      obtain ⟨cur, h1, h2, _⟩ := (HL.out.tch T2 (fun _ _ h => h)).blk
      obtain ⟨⟨z0, e0⟩, ⟨z1, e1⟩, ⟨z2, e2⟩, ⟨z3, e3⟩, ⟨z4, e4⟩, hf⟩ := set5_cells h1 h2 (by omega : k < n) (.int .i64 p.1.id) (.int .i64 p.1.ver) (.string p.1.nm) (.slice vo p.1.cols.length vc)
      have f0 := hf (k * 5); have f1 := hf (k * 5 + 1); have f2 := hf (k * 5 + 2); have f3 := hf (k * 5 + 3); have f4 := hf (k * 5 + 4)
      have HT2 : Hid (Tch (fun i => i = R) w1 (((((w2.setCell ⟨R, k * 5, none⟩ (.int .i64 p.1.id)).setCell ⟨R, k * 5 + 1, none⟩ (.int .i64 p.1.ver)).setCell ⟨R, k * 5 + 2, none⟩ (.string p.1.nm)).setCell ⟨R, k * 5 + 3, none⟩ (.slice vo p.1.cols.length vc)).setCell ⟨R, k * 5 + 4, none⟩ (.int .i64 p.1.key))) := (((((HT.out.trans' (T2.mono (fun _ _ h => h.elim))).setCellR ⟨R, k * 5, none⟩ _ rfl).setCellR ⟨R, k * 5 + 1, none⟩ _ rfl).setCellR ⟨R, k * 5 + 2, none⟩ _ rfl).setCellR ⟨R, k * 5 + 3, none⟩ _ rfl).setCellR ⟨R, k * 5 + 4, none⟩ _ rfl
      clear h1 h2 hf hv T2 t2
      go_wp2_with fail
      go_roundw
      case rel => exact ⟨k + 1, _, by go_num, by omega, HL2, HT2⟩
      case measure => simp [intOf]; omega
    · have HF : Hid (ListOut (P.map Prod.fst) R (.returned (.slice (some ⟨R, 0, none⟩) n n)) wr ∧ Tch (fun _ => False) w wr) := by
        obtain rfl : k = n := by omega
        have h := HL.out
        obtain ⟨cur, h1, h2, h3⟩ := h.blk
        refine ⟨⟨_, Q, rfl, ?_, ⟨⟨?_, Or.inr ⟨R, k, cur, ?_, Nat.le_refl _, h1, ?_, ?_, h2, ?_⟩⟩, h.col, fun i hi g e e2 => ?_, h.dis⟩⟩, (HTL.out _ HT.out).2⟩
        · rw [h.eq, List.take_of_length_le (by have := Hn.out; omega)]
        · rw [tcl_len]
        · rw [h.len]
        · rw [h.len]; exact Nat.le_refl _
        · unfold maxLen; omega
        · rw [h.len]; exact h3
        · have e3 : R = g := by simpa [Value.ownBlock] using e2
          exact h.sep i hi g e e3.symm
      go_wp2_with fail
      go_ret
      exact HF.out

/-- A catalog of one's own. -/
structure CO (W : World) (base b : Nat) (L : List Tbl) (gv : Int) (P : List (Tbl × Value)) (tv : Value) : Prop where
  blk : W.heap[b]? = some (.cells #[tv, .int .i64 gv] 55 (0, 0))
  ge : base ≤ b
  eq : P.map Prod.fst = L
  to : TO W base tv P
  nb : tv.ownBlock ≠ some b ∧ ∀ i (hi : i < P.length), P[i].2.ownBlock ≠ some b
def CloneOut (L : List Tbl) (gv : Int) (base : Nat) (x : Ending) (w' : World) : Prop := ∃ d tv Q, x = .returned (.pointer (some ⟨d, 0, none⟩)) ∧ CO w' base d L gv Q tv
/-- A catalog, for reading. -/
structure CA (W : World) (F : Nat → Prop) (b : Nat) (L : List Tbl) (gv : Int) (P : List (Tbl × Value)) (to : Option Addr) (tc : Nat) : Prop where
  blk : W.heap[b]? = some (.cells #[.slice to P.length tc, .int .i64 gv] 55 (0, 0))
  eq : P.map Prod.fst = L
  tl : TL W (fun i => F i ∨ i = b) to P
  nb : ¬ F b
theorem CA.tch {S F : Nat → Prop} {W W' : World} {b : Nat} {L : List Tbl} {gv : Int} {P : List (Tbl × Value)} {to : Option Addr} {tc : Nat} (h : CA W F b L gv P to tc) (t : Tch S W W') (hS : ∀ i, i < W.heap.size → S i → F i) : CA W' F b L gv P to tc :=
  ⟨by rw [t.block b (blk_lt h.blk) (fun hs => h.nb (hS b (blk_lt h.blk) hs))]; exact h.blk, h.eq, h.tl.tch t (fun i hi hs => Or.inl (hS i hi hs)), h.nb⟩

set_option maxHeartbeats 2000000 in
set_option maxRecDepth 100000 in
theorem clone_any (b : Nat) (L : List Tbl) (gv : Int) (P : List (Tbl × Value)) (to : Option Addr) (tc : Nat) (F : Nat → Prop) (w : World) (h : CA w F b L gv P to tc) (hl : P.length ≤ 16) (h8 : ∀ i (hi : i < P.length), P[i].1.cols.length ≤ 8) :
    Calls Try.prog 8 #[.pointer (some ⟨b, 0, none⟩)] w fun x w' => CloneOut L gv w.heap.size x w' ∧ Tch (fun _ => False) w w' := by
  have HA : Hid (∀ W, Tch (fun _ => False) w W → Tch (fun _ => False) w W ∧ W.cell? ⟨b, 0, none⟩ = some (.slice to P.length tc) ∧ W.cell? ⟨b, 1, none⟩ = some (.int .i64 gv)) := fun W tW => by
    have h1 := (h.tch tW (fun _ _ h => h.elim)).blk
    exact ⟨tW, by rw [blk_cell h1]; rfl, by rw [blk_cell h1]; rfl⟩
  have Hq : Hid (∀ W, Tch (fun _ => False) w W → Calls Try.prog 27 #[.pointer (some ⟨b, 0, none⟩)] W fun x w' => ListOut L w.heap.size x w' ∧ Tch (fun _ => False) W w') := fun W tW => by
    refine (list_any b to tc P _ W (HA.out W tW).2.1 (h.tch tW (fun _ _ h => h.elim)).tl hl h8).mono ?_
    rintro x w' ⟨⟨tv, Q, hx, hQ, hTO⟩, t'⟩
    refine ⟨⟨tv, Q, hx, by rw [hQ, h.eq], ?_⟩, t'⟩
    exact ⟨own_low hTO.own tW.size, fun i hi => own_low (hTO.col i hi) tW.size, hTO.sep, hTO.dis⟩
  obtain ⟨_, b0, b1⟩ := HA.out w (Tch.refl _ _)
  clear h h8
  go_enter Try.func8, Try.ntmps8
  go_wp2_with fail
  have T0 : Tch (fun _ => False) w w := Tch.refl _ _
  go_region_held3 (fun W => Tch (fun _ => False) w W ∧ W.cell? ⟨b, 0, none⟩ = some (.slice to P.length tc) ∧ W.cell? ⟨b, 1, none⟩ = some (.int .i64 gv))
    ((refine HA.out _ ?_; first | assumption | exact (Tch.refl _ _).drew | exact Tch.allocR (by assumption) _))
    ((go_at_call 27; refine (Hq.out _ (show _ ∧ _ by assumption).1).mono ?_; rintro y w2 ⟨⟨tv, Q, rfl, hQ, hTO⟩, t2⟩; have V2 := Tch.trans' (show _ ∧ _ by assumption).1 t2; obtain ⟨tvo, tvc, htv⟩ := row_slice hTO.own; subst htv))
  have HF : Hid (CloneOut L gv w.heap.size (.returned (.pointer (some ⟨w2.heap.size, 0, none⟩))) (w2.alloc (.cells #[.slice tvo Q.length tvc, .int .i64 gv] 55))) := by
    have ta : Tch (fun _ => False) w2 (w2.alloc (.cells #[.slice tvo Q.length tvc, .int .i64 gv] 55)) := Tch.alloc _ _ _
    refine ⟨w2.heap.size, .slice tvo Q.length tvc, Q, rfl, alloc_new _ _, V2.size, hQ, hTO.tch ta (fun _ _ _ h => h), fun e => ?_, fun i hi e => ?_⟩
    · have := (hTO.own.lt _ e).2; omega
    · have := ((hTO.col i hi).lt _ e).2; omega
  have HT : Hid (Tch (fun _ => False) w (w2.alloc (.cells #[.slice tvo Q.length tvc, .int .i64 gv] 55))) := V2.allocR _
  clear hQ hTO
  go_wp2_with fail
  go_ret
  exact ⟨HF.out, HT.out⟩
end Go.Proofs.Ytolamjipigfocaa
