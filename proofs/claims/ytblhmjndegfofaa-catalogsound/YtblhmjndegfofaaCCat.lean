import Derived.Test.YtblhmjndegfofaaCTab
/- Lists of tables in the world; where a table of a name stands. -/
namespace Go.Proofs.Ytblhmjndegfofaa
open Go.RowKit Go

def tcs (p : Tbl × Value) : List Value := [.int .i64 p.1.id, .int .i64 p.1.ver, .string p.1.nm, p.2, .int .i64 p.1.key]
def tcl (l : List (Tbl × Value)) : List Value := l.flatMap tcs
theorem tcl_len : ∀ l : List (Tbl × Value), (tcl l).length = l.length * 5
  | [] => rfl
  | a :: l => by
    have := tcl_len l
    unfold tcl at this ⊢
    simp only [List.flatMap_cons, List.length_append, this, List.length_cons]
    simp [tcs]; omega
theorem tcl_append (l m : List (Tbl × Value)) : tcl (l ++ m) = tcl l ++ tcl m := by simp [tcl]
theorem tcl_get : ∀ (l : List (Tbl × Value)) (k j : Nat) (hk : k < l.length), j < 5 → (tcl l)[k * 5 + j]? = (tcs l[k])[j]?
  | [], k, j, hk, _ => by simp at hk
  | a :: l, 0, j, _, hj => by
    unfold tcl
    rw [List.flatMap_cons, Nat.zero_mul, Nat.zero_add, List.getElem?_append_left (by simp [tcs]; omega)]; rfl
  | a :: l, k + 1, j, hk, hj => by
    have := tcl_get l k j (by simpa using hk) hj
    unfold tcl at this ⊢
    rw [List.flatMap_cons, List.getElem?_append_right (by simp [tcs]; omega)]
    simp only [List.getElem_cons_succ]
    rw [← this]
    congr 1
    simp [tcs]; omega
/-- A table's columns, for reading. -/
structure CK (W : World) (F : Nat → Prop) (p : Tbl × Value) (co : Option Addr) (cc : Nat) : Prop where
  eq : p.2 = .slice co p.1.cols.length cc
  sl : SL W co (ccl p.1.cols)
  no : co = none → p.1.cols = [] ∧ cc = 0
  cap : p.1.cols.length ≤ cc
  nf : ∀ g o, co = some ⟨g, o, none⟩ → ¬ F g ∧ g < W.heap.size
/-- Tables, for reading: none of the blocks F is theirs. -/
structure TL (W : World) (F : Nat → Prop) (to : Option Addr) (P : List (Tbl × Value)) : Prop where
  sl : SL W to (tcl P)
  nf : P ≠ [] → ∀ g o, to = some ⟨g, o, none⟩ → ¬ F g
  col : ∀ i (hi : i < P.length), ∃ co cc, CK W F P[i] co cc
theorem CK.tch {S F : Nat → Prop} {W W' : World} {p : Tbl × Value} {co : Option Addr} {cc : Nat} (h : CK W F p co cc) (t : Tch S W W') (hS : ∀ i, i < W.heap.size → S i → F i) : CK W' F p co cc :=
  ⟨h.eq, h.sl.tch t (fun g o e hs => (h.nf g o e).1 (hS g (h.nf g o e).2 hs)), h.no, h.cap, fun g o e => ⟨(h.nf g o e).1, Nat.lt_of_lt_of_le (h.nf g o e).2 t.size⟩⟩
theorem tcl_nil {P : List (Tbl × Value)} (h : P ≠ []) : tcl P ≠ [] := fun e => by
  have := tcl_len P
  rw [e] at this
  have := List.length_pos_iff.2 h
  simp at *; omega
theorem TL.tch {S F : Nat → Prop} {W W' : World} {to : Option Addr} {P : List (Tbl × Value)} (h : TL W F to P) (t : Tch S W W') (hS : ∀ i, i < W.heap.size → S i → F i) : TL W' F to P := by
  refine ⟨fun hc => ?_, h.nf, fun i hi => ?_⟩
  · obtain ⟨g, o, e, ha⟩ := h.sl hc
    have hP : P ≠ [] := by rintro rfl; exact hc rfl
    exact ⟨g, o, e, ha.tch t (fun _ hs => h.nf hP g o e (hS g (ha.lt hc) hs))⟩
  · obtain ⟨co, cc, hck⟩ := h.col i hi
    exact ⟨co, cc, hck.tch t hS⟩
theorem TL.at {W : World} {F : Nat → Prop} {to : Option Addr} {P : List (Tbl × Value)} (h : TL W F to P) (k : Nat) (hk : k < P.length) : ∃ g o, to = some ⟨g, o, none⟩ ∧ W.cell? ⟨g, o + k * 5, none⟩ = some (.int .i64 P[k].1.id) ∧ W.cell? ⟨g, o + k * 5 + 1, none⟩ = some (.int .i64 P[k].1.ver) ∧ W.cell? ⟨g, o + k * 5 + 2, none⟩ = some (.string P[k].1.nm) ∧ W.cell? ⟨g, o + k * 5 + 3, none⟩ = some P[k].2 ∧ W.cell? ⟨g, o + k * 5 + 4, none⟩ = some (.int .i64 P[k].1.key) := by
  obtain ⟨g, o, e, ha⟩ := h.sl (tcl_nil (by rintro rfl; simp at hk))
  have key : ∀ j u, j < 5 → (tcs P[k])[j]? = some u → W.cell? ⟨g, o + k * 5 + j, none⟩ = some u := fun j u hj hu => by
    have := ha (k * 5 + j) u (by rw [tcl_get P k j hk hj]; exact hu)
    rwa [← Nat.add_assoc] at this
  exact ⟨g, o, e, key 0 _ (by omega) rfl, key 1 _ (by omega) rfl, key 2 _ (by omega) rfl, key 3 _ (by omega) rfl, key 4 _ (by omega) rfl⟩
/-- Where the first table stands that is so. -/
def posP (f : Tbl → Bool) : List (Tbl × Value) → Int
  | [] => -1
  | p :: l => if f p.1 then 0 else if posP f l < 0 then -1 else posP f l + 1
theorem posP_none {f : Tbl → Bool} : ∀ {l : List (Tbl × Value)}, (∀ i (h : i < l.length), f l[i].1 = false) → posP f l = -1
  | [], _ => rfl
  | p :: l, h => by
    have h0 := h 0 (by simp)
    have ih := posP_none (f := f) (l := l) (fun i hi => h (i + 1) (by simpa using hi))
    simp only [List.getElem_cons_zero] at h0
    unfold posP
    rw [h0, ih]; rfl
theorem posP_some {f : Tbl → Bool} : ∀ {l : List (Tbl × Value)} {k : Nat} (hk : k < l.length), f l[k].1 = true → (∀ i (h : i < l.length), i < k → f l[i].1 = false) → posP f l = k
  | [], k, hk, _, _ => by simp at hk
  | p :: l, 0, _, h, _ => by
    simp only [List.getElem_cons_zero] at h
    unfold posP
    rw [h]; rfl
  | p :: l, k + 1, hk, h, h2 => by
    have h0 := h2 0 (by simp) (by omega)
    simp only [List.getElem_cons_zero] at h0
    have ih := posP_some (f := f) (l := l) (k := k) (by simpa using hk) h (fun i hi hik => h2 (i + 1) (by simpa using hi) (by omega))
    unfold posP
    rw [h0, ih, if_neg (by simp), if_neg (by omega)]
    omega
theorem posP_cases (f : Tbl → Bool) (l : List (Tbl × Value)) : (posP f l = -1 ∧ ∀ i (h : i < l.length), f l[i].1 = false) ∨ ∃ k, ∃ (hk : k < l.length), posP f l = k ∧ f l[k].1 = true ∧ ∀ i (h : i < l.length), i < k → f l[i].1 = false := by
  induction l with
  | nil => exact Or.inl ⟨rfl, fun i h => by simp at h⟩
  | cons p l ih =>
    cases hp : f p.1 with
    | true => exact Or.inr ⟨0, by simp, posP_some (by simp) (by simpa using hp) (fun i h h2 => by omega), by simpa using hp, fun i h h2 => by omega⟩
    | false =>
      rcases ih with ⟨_, h2⟩ | ⟨k, hk, _, h2, h3⟩
      · have h4 : ∀ i (h : i < (p :: l).length), f (p :: l)[i].1 = false := fun i hi => by
          rcases i with _ | i
          · simpa using hp
          · simpa using h2 i (by simpa using hi)
        exact Or.inl ⟨posP_none h4, h4⟩
      · have h4 : ∀ i (h : i < (p :: l).length), i < k + 1 → f (p :: l)[i].1 = false := fun i hi hik => by
          rcases i with _ | i
          · simpa using hp
          · simpa using h3 i (by simpa using hi) (by omega)
        exact Or.inr ⟨k + 1, by simpa using hk, posP_some (by simpa using hk) (by simpa using h2) h4, by simpa using h2, h4⟩

set_option maxHeartbeats 1000000 in
set_option maxRecDepth 100000 in
theorem nm1_any (B : Nat) (nm : ByteArray) (t : Tbl) (v : Value) (w : World) (hB : w.cell? ⟨B, 0, none⟩ = some (.string nm)) (hv : ∃ ao n c, v = .slice ao n c) :
    Calls Try.prog 77 #[tA t.id t.ver t.nm v t.key, .pointer (some ⟨B, 0, none⟩)] w fun x w' => x = .returned (.bool (decide (t.nm = nm))) ∧ Tch (fun _ => False) w w' := by
  obtain ⟨ao, n, c, rfl⟩ := hv
  have hlt := cell_lt hB
  have hB1 : ∀ o, (w.alloc o).cell? ⟨B, 0, none⟩ = some (.string nm) := fun o => by rw [World.cell?_alloc_lt _ _ _ hlt]; exact hB
  by_cases h : t.nm = nm
  · have hd : decide (t.nm = nm) = true := by simp [h]
    rw [hd]
    subst h
    go_enter Try.func77, Try.ntmps77
    go_wp2
    go_ret
    exact ⟨rfl, Tch.alloc _ _ _⟩
  · have hd : decide (t.nm = nm) = false := by simp [h]
    have hne := str_ne h
    rw [hd]
    clear h hd
    go_enter Try.func77, Try.ntmps77
    go_wp2
    go_ret
    exact ⟨rfl, Tch.alloc _ _ _⟩
set_option maxHeartbeats 1000000 in
set_option maxRecDepth 100000 in
theorem nm2_any (B : Nat) (nm : ByteArray) (to : Option Addr) (tc : Nat) (P : List (Tbl × Value)) (F : Nat → Prop) (w : World) (hB : w.cell? ⟨B, 0, none⟩ = some (.string nm)) (hT : TL w F to P) (hl : P.length ≤ 16) :
    Calls Try.prog 74 #[.slice to P.length tc, .func (.func 77) #[] #[.pointer (some ⟨B, 0, none⟩)]] w fun x w' => x = .returned (.int .i64 (posP (fun t => decide (t.nm = nm)) P)) ∧ Tch (fun _ => False) w w' := by
  have HT : Hid (∀ W, Tch (fun _ => False) w W → TL W F to P ∧ W.cell? ⟨B, 0, none⟩ = some (.string nm)) := fun W tW => ⟨hT.tch tW (fun _ _ h => h.elim), (tW.cell (p := ⟨B, 0, none⟩) (cell_lt hB) (fun h => h)).trans hB⟩
  have hlI : (P.length : Int) ≤ 16 := by omega
  obtain ⟨r, hr⟩ : ∃ r, r = posP (fun t => decide (t.nm = nm)) P := ⟨_, rfl⟩
  have HR : Hid (r = posP (fun t => decide (t.nm = nm)) P) := hr
  rw [← hr]
  clear hB hT hr
  go_enter Try.func74, Try.ntmps74
  go_wp2_with fail
  go_loopw [8] (fun i wr => ∃ k : Nat, i = .int .i64 k ∧ k ≤ P.length ∧ Tch (fun _ => False) w wr ∧ Hid (∀ j (h : j < P.length), j < k → decide ((fun t : Tbl => t.nm) P[j].1 = nm) = false)) (fun i _ => P.length - (intOf i).toNat)
  case atStart => exact ⟨0, rfl, by omega, Tch.refl _ _, fun _ _ h => by omega⟩
  case round =>
    obtain ⟨k, rfl, hk, hT, HK⟩ := hrel
    by_cases hlt : (k : Int) < P.length
    · have hkl : k < P.length := by omega
      obtain ⟨hTL, hBc⟩ := HT.out _ hT
      obtain ⟨g, o, rfl, c0, c1, c2, c3, c4⟩ := hTL.at k hkl
      obtain ⟨co, cc, hck⟩ := hTL.col k hkl
      obtain ⟨p, hp⟩ : ∃ p, p = P[k] := ⟨_, rfl⟩
      rw [← hp] at c0 c1 c2 c3 c4 hck
      rw [hck.eq] at c3
      have q := nm1_any B nm p.1 (.slice co p.1.cols.length cc) wr hBc ⟨_, _, _, rfl⟩
      have Hp : Hid (p = P[k]) := hp
      obtain ⟨d, hd⟩ : ∃ d, d = decide (p.1.nm = nm) := ⟨_, rfl⟩
      rw [← hd] at q
      have HD : Hid (d = decide (p.1.nm = nm)) := hd
      clear hTL hck hp hd
      cases d with
      | true =>
        have HE : Hid (r = k) := by
          show _ = _
          rw [HR.out]
          exact posP_some hkl (by rw [← Hp.out]; exact HD.out.symm) (fun i hi hik => HK.out i hi hik)
        go_wp2_with (go_at_call 77; refine q.mono ?_; rintro y w1 ⟨rfl, t1⟩)
        go_ret
        exact ⟨by rw [HE.out]; rfl, hT.trans' t1⟩
      | false =>
        have HE : Hid (∀ j (h : j < P.length), j < k + 1 → decide ((fun t : Tbl => t.nm) P[j].1 = nm) = false) := fun j hj hjk => by
          rcases Nat.lt_or_ge j k with h1 | h1
          · exact HK.out j hj h1
          · obtain rfl : j = k := by omega
            rw [← Hp.out]; exact HD.out.symm
        go_wp2_with (go_at_call 77; refine q.mono ?_; rintro y w1 ⟨rfl, t1⟩)
        go_roundw
        case rel => exact ⟨k + 1, by go_num, by omega, hT.trans' t1, HE⟩
        case measure => simp [intOf]; omega
    · have HE : Hid (r = -1) := by
        show _ = _
        rw [HR.out]
        exact posP_none (fun i hi => HK.out i hi (by omega))
      go_wp2_with fail
      go_ret
      exact ⟨by rw [HE.out]; rfl, hT⟩
set_option maxHeartbeats 1000000 in
set_option maxRecDepth 100000 in
theorem nm3_any (b : Nat) (to : Option Addr) (tc : Nat) (P : List (Tbl × Value)) (F : Nat → Prop) (nm : ByteArray) (w : World) (hb : w.cell? ⟨b, 0, none⟩ = some (.slice to P.length tc)) (hT : TL w F to P) (hl : P.length ≤ 16) :
    Calls Try.prog 53 #[.pointer (some ⟨b, 0, none⟩), .string nm] w fun x w' => x = .returned (.int .i64 (posP (fun t => decide (t.nm = nm)) P)) ∧ Tch (fun _ => False) w w' := by
  have hlt := cell_lt hb
  have hb1 : ∀ o, (w.alloc o).cell? ⟨b, 0, none⟩ = some (.slice to P.length tc) := fun o => by rw [World.cell?_alloc_lt _ _ _ hlt]; exact hb
  have q := nm2_any w.heap.size nm to tc P F (w.alloc (.cells #[.string nm] 9)) (by simp) (hT.tch (Tch.alloc (fun _ => False) _ _) (fun _ _ h => h.elim)) hl
  clear hT hb
  go_enter Try.func53, Try.ntmps53
  go_wp2_with (go_at_call 74; refine q.mono ?_; rintro y w1 ⟨rfl, t1⟩)
  go_ret
  exact ⟨rfl, (Tch.alloc _ _ _).trans' t1⟩

set_option maxHeartbeats 1000000 in
set_option maxRecDepth 100000 in
theorem id1_any (B : Nat) (id : Int) (t : Tbl) (v : Value) (w : World) (hB : w.cell? ⟨B, 0, none⟩ = some (.int .i64 id)) (hv : ∃ ao n c, v = .slice ao n c) :
    Calls Try.prog 75 #[tA t.id t.ver t.nm v t.key, .pointer (some ⟨B, 0, none⟩)] w fun x w' => x = .returned (.bool (decide (t.id = id))) ∧ Tch (fun _ => False) w w' := by
  obtain ⟨ao, n, c, rfl⟩ := hv
  have hlt := cell_lt hB
  have hB1 : ∀ o, (w.alloc o).cell? ⟨B, 0, none⟩ = some (.int .i64 id) := fun o => by rw [World.cell?_alloc_lt _ _ _ hlt]; exact hB
  by_cases h : t.id = id
  · have hd : decide (t.id = id) = true := by simp [h]
    rw [hd]
    subst h
    go_enter Try.func75, Try.ntmps75
    go_wp2
    go_ret
    exact ⟨rfl, Tch.alloc _ _ _⟩
  · have hd : decide (t.id = id) = false := by simp [h]
    have hne := beq_eq_false_iff_ne.2 h
    rw [hd]
    clear h hd
    go_enter Try.func75, Try.ntmps75
    go_wp2
    go_ret
    exact ⟨rfl, Tch.alloc _ _ _⟩
set_option maxHeartbeats 1000000 in
set_option maxRecDepth 100000 in
theorem id2_any (B : Nat) (id : Int) (to : Option Addr) (tc : Nat) (P : List (Tbl × Value)) (F : Nat → Prop) (w : World) (hB : w.cell? ⟨B, 0, none⟩ = some (.int .i64 id)) (hT : TL w F to P) (hl : P.length ≤ 16) :
    Calls Try.prog 74 #[.slice to P.length tc, .func (.func 75) #[] #[.pointer (some ⟨B, 0, none⟩)]] w fun x w' => x = .returned (.int .i64 (posP (fun t => decide (t.id = id)) P)) ∧ Tch (fun _ => False) w w' := by
  have HT : Hid (∀ W, Tch (fun _ => False) w W → TL W F to P ∧ W.cell? ⟨B, 0, none⟩ = some (.int .i64 id)) := fun W tW => ⟨hT.tch tW (fun _ _ h => h.elim), (tW.cell (p := ⟨B, 0, none⟩) (cell_lt hB) (fun h => h)).trans hB⟩
  have hlI : (P.length : Int) ≤ 16 := by omega
  obtain ⟨r, hr⟩ : ∃ r, r = posP (fun t => decide (t.id = id)) P := ⟨_, rfl⟩
  have HR : Hid (r = posP (fun t => decide (t.id = id)) P) := hr
  rw [← hr]
  clear hB hT hr
  go_enter Try.func74, Try.ntmps74
  go_wp2_with fail
  go_loopw [8] (fun i wr => ∃ k : Nat, i = .int .i64 k ∧ k ≤ P.length ∧ Tch (fun _ => False) w wr ∧ Hid (∀ j (h : j < P.length), j < k → decide ((fun t : Tbl => t.id) P[j].1 = id) = false)) (fun i _ => P.length - (intOf i).toNat)
  case atStart => exact ⟨0, rfl, by omega, Tch.refl _ _, fun _ _ h => by omega⟩
  case round =>
    obtain ⟨k, rfl, hk, hT, HK⟩ := hrel
    by_cases hlt : (k : Int) < P.length
    · have hkl : k < P.length := by omega
      obtain ⟨hTL, hBc⟩ := HT.out _ hT
      obtain ⟨g, o, rfl, c0, c1, c2, c3, c4⟩ := hTL.at k hkl
      obtain ⟨co, cc, hck⟩ := hTL.col k hkl
      obtain ⟨p, hp⟩ : ∃ p, p = P[k] := ⟨_, rfl⟩
      rw [← hp] at c0 c1 c2 c3 c4 hck
      rw [hck.eq] at c3
      have q := id1_any B id p.1 (.slice co p.1.cols.length cc) wr hBc ⟨_, _, _, rfl⟩
      have Hp : Hid (p = P[k]) := hp
      obtain ⟨d, hd⟩ : ∃ d, d = decide (p.1.id = id) := ⟨_, rfl⟩
      rw [← hd] at q
      have HD : Hid (d = decide (p.1.id = id)) := hd
      clear hTL hck hp hd
      cases d with
      | true =>
        have HE : Hid (r = k) := by
          show _ = _
          rw [HR.out]
          exact posP_some hkl (by rw [← Hp.out]; exact HD.out.symm) (fun i hi hik => HK.out i hi hik)
        go_wp2_with (go_at_call 75; refine q.mono ?_; rintro y w1 ⟨rfl, t1⟩)
        go_ret
        exact ⟨by rw [HE.out]; rfl, hT.trans' t1⟩
      | false =>
        have HE : Hid (∀ j (h : j < P.length), j < k + 1 → decide ((fun t : Tbl => t.id) P[j].1 = id) = false) := fun j hj hjk => by
          rcases Nat.lt_or_ge j k with h1 | h1
          · exact HK.out j hj h1
          · obtain rfl : j = k := by omega
            rw [← Hp.out]; exact HD.out.symm
        go_wp2_with (go_at_call 75; refine q.mono ?_; rintro y w1 ⟨rfl, t1⟩)
        go_roundw
        case rel => exact ⟨k + 1, by go_num, by omega, hT.trans' t1, HE⟩
        case measure => simp [intOf]; omega
    · have HE : Hid (r = -1) := by
        show _ = _
        rw [HR.out]
        exact posP_none (fun i hi => HK.out i hi (by omega))
      go_wp2_with fail
      go_ret
      exact ⟨by rw [HE.out]; rfl, hT⟩
set_option maxHeartbeats 1000000 in
set_option maxRecDepth 100000 in
theorem id3_any (b : Nat) (to : Option Addr) (tc : Nat) (P : List (Tbl × Value)) (F : Nat → Prop) (id : Int) (w : World) (hb : w.cell? ⟨b, 0, none⟩ = some (.slice to P.length tc)) (hT : TL w F to P) (hl : P.length ≤ 16) :
    Calls Try.prog 51 #[.pointer (some ⟨b, 0, none⟩), .int .i64 id] w fun x w' => x = .returned (.int .i64 (posP (fun t => decide (t.id = id)) P)) ∧ Tch (fun _ => False) w w' := by
  have hlt := cell_lt hb
  have hb1 : ∀ o, (w.alloc o).cell? ⟨b, 0, none⟩ = some (.slice to P.length tc) := fun o => by rw [World.cell?_alloc_lt _ _ _ hlt]; exact hb
  have q := id2_any w.heap.size id to tc P F (w.alloc (.cells #[.int .i64 id] 3)) (by simp) (hT.tch (Tch.alloc (fun _ => False) _ _) (fun _ _ h => h.elim)) hl
  clear hT hb
  go_enter Try.func51, Try.ntmps51
  go_wp2_with (go_at_call 74; refine q.mono ?_; rintro y w1 ⟨rfl, t1⟩)
  go_ret
  exact ⟨rfl, (Tch.alloc _ _ _).trans' t1⟩
end Go.Proofs.Ytblhmjndegfofaa
