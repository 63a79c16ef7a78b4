import Derived.Test.YtolobljlkdacjaaXRel
/- The document's manager in the world; what it reads: at, top, taken, live, within. -/
namespace Go.Proofs.Ytolobljlkdacjaa
open Go.RowKit Go

/-- The cells of a list of numbers. -/
def ncl (L : List Nm) : List Value := L.flatMap (fun a => [.int .i64 a.n, .int .i64 a.par, .int .i64 a.st, .int .i64 a.had, .bool a.rl, .bool a.bk])
theorem ncl_len : ∀ l : List Nm, (ncl l).length = l.length * 6
  | [] => rfl
  | a :: l => by
    have := ncl_len l
    unfold ncl at this ⊢
    simp only [List.flatMap_cons, List.length_append, List.length_cons, List.length_nil, this]; omega
theorem ncl_get : ∀ (l : List Nm) (k : Nat) (a : Nm), l[k]? = some a → (ncl l)[k * 6]? = some (.int .i64 a.n) ∧ (ncl l)[k * 6 + 1]? = some (.int .i64 a.par) ∧ (ncl l)[k * 6 + 2]? = some (.int .i64 a.st) ∧ (ncl l)[k * 6 + 3]? = some (.int .i64 a.had) ∧ (ncl l)[k * 6 + 4]? = some (.bool a.rl) ∧ (ncl l)[k * 6 + 5]? = some (.bool a.bk)
  | [], k, p, hk => by simp at hk
  | a :: l, 0, p, hk => by
    simp only [List.getElem?_cons_zero, Option.some.injEq] at hk
    subst hk
    simp [ncl]
  | a :: l, k + 1, p, hk => by
    have := ncl_get l k p (by simpa using hk)
    unfold ncl at this ⊢
    have e1 : (k + 1) * 6 = k * 6 + 6 := by omega
    simp only [List.flatMap_cons]
    rw [e1]
    refine ⟨?_, ?_, ?_, ?_, ?_, ?_⟩
    · rw [List.getElem?_append_right (by simp)]; simpa using this.1
    · rw [List.getElem?_append_right (by simp)]; simpa using this.2.1
    · rw [List.getElem?_append_right (by simp)]; simpa using this.2.2.1
    · rw [List.getElem?_append_right (by simp)]; simpa using this.2.2.2.1
    · rw [List.getElem?_append_right (by simp)]; simpa using this.2.2.2.2.1
    · rw [List.getElem?_append_right (by simp)]; simpa using this.2.2.2.2.2
theorem ncl_snoc (l : List Nm) (a : Nm) : ncl (l ++ [a]) = ncl l ++ [.int .i64 a.n, .int .i64 a.par, .int .i64 a.st, .int .i64 a.had, .bool a.rl, .bool a.bk] := by simp [ncl]
theorem ncl_one (l : List Nm) : ∀ u ∈ ncl l, u.oneCell' = true := fun u hu => by
  unfold ncl at hu
  rw [List.mem_flatMap] at hu
  obtain ⟨a, _, hu⟩ := hu
  simp only [List.mem_cons, List.not_mem_nil, or_false] at hu
  rcases hu with rfl | rfl | rfl | rfl | rfl | rfl <;> rfl

/-- Numbers for reading, in the document's manager at block b. -/
structure NR (w : World) (b : Nat) (ao : Option Addr) (c : Nat) (L : List Nm) : Prop where
  c0 : w.cell? ⟨b, 0, none⟩ = some (.slice ao L.length c)
  el : ∀ (k : Nat) a, L[k]? = some a → ∃ g, ao = some ⟨g, 0, none⟩ ∧ w.cell? ⟨g, k * 6, none⟩ = some (.int .i64 a.n) ∧ w.cell? ⟨g, k * 6 + 1, none⟩ = some (.int .i64 a.par) ∧ w.cell? ⟨g, k * 6 + 2, none⟩ = some (.int .i64 a.st) ∧ w.cell? ⟨g, k * 6 + 3, none⟩ = some (.int .i64 a.had) ∧ w.cell? ⟨g, k * 6 + 4, none⟩ = some (.bool a.rl) ∧ w.cell? ⟨g, k * 6 + 5, none⟩ = some (.bool a.bk)

set_option maxHeartbeats 2000000 in
set_option maxRecDepth 100000 in
theorem rat_any (b : Nat) (ao : Option Addr) (c : Nat) (L : List Nm) (id : Int) (w : World) (h : NR w b ao c L) (hl : L.length ≤ 2147483648) :
    Calls Try.prog 33 #[.pointer (some ⟨b, 0, none⟩), .int .i64 id] w fun x w' => x = .returned (.int .i64 (posZ L id)) ∧ w' = w := by
  obtain ⟨r, hr⟩ : ∃ r, r = posZ L id := ⟨_, rfl⟩
  have HR : Hid (r = posZ L id) := hr
  rw [← hr]
  obtain ⟨n, hn⟩ : ∃ n, n = L.length := ⟨_, rfl⟩
  have hb := h.c0
  rw [← hn] at hb hl
  have Hn : Hid (n = L.length) := hn
  have HT : Hid _ := h
  clear h hr hn
  go_enter Try.func33, Try.ntmps33
  go_wp2_with fail
  go_loopw [5] (fun i wr => ∃ k : Nat, i = .int .i64 k ∧ k ≤ n ∧ wr = w ∧ Hid (∀ j a, j < k → L[j]? = some a → (a.n : Int) ≠ id)) (fun i _ => n - (intOf i).toNat)
  case atStart => exact ⟨0, rfl, by omega, rfl, fun _ _ h => by omega⟩
  case round =>
    obtain ⟨k, rfl, hk, hwr, HK⟩ := hrel
    subst hwr
    by_cases hlt : (k : Int) < n
    · have hkl : k < L.length := by have := Hn.out; omega
      obtain ⟨a, hk'⟩ : ∃ a, L[k]? = some a := ⟨_, List.getElem?_eq_getElem hkl⟩
      obtain ⟨g, rfl, c2, -⟩ := HT.out.el k _ hk'
      obtain ⟨s, hs⟩ : ∃ s : Int, s = a.n := ⟨_, rfl⟩
      rw [← hs] at c2
      by_cases he : s = id
      · have HE : Hid (r = k) := by
          show _ = _
          rw [HR.out]
          unfold posZ
          rw [posN_is hk' (by omega) (fun i b hi hb => HK.out i b hi hb)]
        subst he
        clear hs hk' hkl
        go_wp2_with fail
        go_ret
        exact ⟨by (rw [HE.out]) <;> rfl, rfl⟩
      · have hne : (s == id) = false := beq_eq_false_iff_ne.2 he
        have HE : Hid (∀ j a, j < k + 1 → L[j]? = some a → (a.n : Int) ≠ id) := fun j b hjk ha => by
          rcases Nat.lt_or_ge j k with h1 | h1
          · exact HK.out j b h1 ha
          · obtain rfl : j = k := by omega
            rw [hk'] at ha
            injection ha with ha
            subst ha
            omega
        clear hs he hk' hkl
        go_wp2_with fail
        go_roundw
        case rel => exact ⟨k + 1, by go_num, by omega, trivial, HE⟩
        case measure => simp [intOf]; omega
    · have HE : Hid (r = -1) := by
        show _ = _
        rw [HR.out]
        unfold posZ
        rw [posN_no (fun i a ha => HK.out i a (by have := (List.getElem?_eq_some_iff.1 ha).1; have := Hn.out; omega) ha)]
      go_wp2_with fail
      go_ret
      exact ⟨by (rw [HE.out]) <;> rfl, rfl⟩

set_option maxHeartbeats 2000000 in
set_option maxRecDepth 100000 in
theorem rtop_any (b : Nat) (ao : Option Addr) (c : Nat) (m : Mg) (L : List Nm) (w : World) (h : NR w b ao c L) (hm : Rel m L) (n0 : Int) (t : Tx) (i0 : Int) (hf : fnd m.tx n0 = some (t, i0)) (j0 : Nat) (hj : posN L n0 = some j0) (jt : Nat) (ht : posN L (t.x : Int) = some jt) :
    Calls Try.prog 35 #[.pointer (some ⟨b, 0, none⟩), .int .i64 j0] w fun x w' => x = .returned (.int .i64 jt) ∧ w' = w := by
  have hl := hm.len
  obtain ⟨n, hn⟩ : ∃ n, n = L.length := ⟨_, rfl⟩
  have hb := h.c0
  rw [← hn] at hb hl
  have q : ∀ id : Int, Calls Try.prog 33 #[.pointer (some ⟨b, 0, none⟩), .int .i64 id] w fun x w' => x = .returned (.int .i64 (posZ L id)) ∧ w' = w := fun id => rat_any b ao c L id w h hm.len
  have Hn : Hid (n = L.length) := hn
  have HT : Hid _ := h
  have HM : Hid _ := hm
  have Ht : Hid _ := ht
  have HS : Hid (fnd m.tx n0 = some (t, i0) ∧ posN L n0 = some j0) := ⟨hf, hj⟩
  have hj0 : j0 < n := by
    obtain ⟨a, ha, _⟩ := posN_some hj
    have := (List.getElem?_eq_some_iff.1 ha).1; omega
  clear h hn hm ht hf hj
  go_enter Try.func35, Try.ntmps35
  go_wp2_with fail
  go_loopw [1] (fun i wr => ∃ k : Nat, i = .int .i64 k ∧ k < n ∧ wr = w ∧ Hid (∃ x i', fnd m.tx x = some (t, i') ∧ posN L x = some k)) (fun i _ => (intOf i).toNat)
  case atStart => exact ⟨j0, rfl, hj0, rfl, ⟨_, _, HS.out⟩⟩
  case round =>
    obtain ⟨k, rfl, hk, hwr, HK⟩ := hrel
    subst hwr
    have hkl : k < L.length := by have := Hn.out; omega
    obtain ⟨a, hk'⟩ : ∃ a, L[k]? = some a := ⟨_, List.getElem?_eq_getElem hkl⟩
    obtain ⟨g, rfl, -, c1, -⟩ := HT.out.el k _ hk'
    obtain ⟨x, i', h1, h2⟩ := HK.out
    rcases fnd_cases h1 with rfl | ⟨kp, rfl, _⟩
    · obtain ⟨e0, e1, e2, _⟩ := HM.out.root h1 h2 hk'
      have HE : Hid (jt = k) := by
        show _ = _
        have := Ht.out
        rw [← e0, h2] at this
        injection this with this
        exact this.symm
      rw [e2] at c1
      clear h1 h2 e0 e1 e2 hk' hkl q
      go_wp2_with fail
      go_ret
      exact ⟨by (rw [HE.out]) <;> rfl, rfl⟩
    · obtain ⟨p, j', _, e2, e3, e4, e5, _⟩ := HM.out.step h1 h2 hk'
      have qq := q (a.par : Int)
      unfold posZ at qq
      rw [e4] at qq
      have HE : Hid (∃ x i', fnd m.tx x = some (t, i') ∧ posN L x = some j') := ⟨_, _, e3, e4⟩
      obtain ⟨s, hs⟩ : ∃ s : Nat, s = a.par := ⟨_, rfl⟩
      rw [← hs] at c1 qq e2
      have hne : ((s : Int) == 0) = false := beq_eq_false_iff_ne.2 (by omega)
      simp only [] at qq
      clear h1 h2 e3 e4 hs hk' hkl q e2
      go_wp2_with fail
      refine qq.mono ?_
      rintro y wy ⟨rfl, hwy⟩
      subst hwy
      clear qq
      go_wp2_with fail
      go_roundw
      case rel => exact ⟨j', rfl, by omega, trivial, HE⟩
      case measure => simp [intOf]; omega

set_option maxHeartbeats 2000000 in
set_option maxRecDepth 100000 in
theorem rtaken_any (b : Nat) (ao : Option Addr) (c : Nat) (m : Mg) (L : List Nm) (w : World) (h : NR w b ao c L) (hm : Rel m L) (n0 : Int) (t : Tx) (i0 : Int) (hf : fnd m.tx n0 = some (t, i0)) (j0 : Nat) (hj : posN L n0 = some j0) :
    Calls Try.prog 34 #[.pointer (some ⟨b, 0, none⟩), .int .i64 j0] w fun x w' => x = .returned (.bool (decide (fate t i0 = 2))) ∧ w' = w := by
  have hl := hm.len
  obtain ⟨n, hn⟩ : ∃ n, n = L.length := ⟨_, rfl⟩
  have hb := h.c0
  rw [← hn] at hb hl
  have q : ∀ id : Int, Calls Try.prog 33 #[.pointer (some ⟨b, 0, none⟩), .int .i64 id] w fun x w' => x = .returned (.int .i64 (posZ L id)) ∧ w' = w := fun id => rat_any b ao c L id w h hm.len
  have Hn : Hid (n = L.length) := hn
  have HT : Hid _ := h
  have HM : Hid _ := hm
  have HS : Hid (fnd m.tx n0 = some (t, i0) ∧ posN L n0 = some j0) := ⟨hf, hj⟩
  have hj0 : j0 < n := by
    obtain ⟨a, ha, _⟩ := posN_some hj
    have := (List.getElem?_eq_some_iff.1 ha).1; omega
  obtain ⟨r, hr⟩ : ∃ r, r = decide (fate t i0 = 2) := ⟨_, rfl⟩
  have Hr : Hid (r = decide (fate t i0 = 2)) := hr
  rw [← hr]
  clear h hn hm hf hj hr
  go_enter Try.func34, Try.ntmps34
  go_wp2_with fail
  go_loopw [1] (fun i wr => ∃ k : Nat, i = .int .i64 k ∧ k < n ∧ wr = w ∧ Hid (∃ x i', fnd m.tx x = some (t, i') ∧ posN L x = some k ∧ r = decide (fate t i' = 2))) (fun i _ => (intOf i).toNat)
  case atStart => exact ⟨j0, rfl, hj0, rfl, ⟨_, _, HS.out.1, HS.out.2, Hr.out⟩⟩
  case round =>
    obtain ⟨k, rfl, hk, hwr, HK⟩ := hrel
    subst hwr
    have hkl : k < L.length := by have := Hn.out; omega
    obtain ⟨a, hk'⟩ : ∃ a, L[k]? = some a := ⟨_, List.getElem?_eq_getElem hkl⟩
    obtain ⟨g, rfl, -, c1, -, -, -, c5⟩ := HT.out.el k _ hk'
    obtain ⟨x, i', h1, h2, h3⟩ := HK.out
    rcases fnd_cases h1 with rfl | ⟨kp, rfl, _⟩
    · obtain ⟨e0, e1, e2, _, _, e5⟩ := HM.out.root h1 h2 hk'
      have HE : Hid (r = false) := by
        show _ = _
        rw [h3, fate_tx]; rfl
      rw [e2] at c1
      rw [e5] at c5
      clear h1 h2 e0 e1 e2 hk' hkl q e5
      go_wp2_with fail
      go_ret
      exact ⟨by (rw [HE.out]) <;> rfl, rfl⟩
    · obtain ⟨p, j', hp, e2, e3, e4, e5, _, _, e6, _⟩ := HM.out.step h1 h2 hk'
      rw [fate_pt hp] at h3
      cases hbk : a.bk with
      | true =>
        have HE : Hid (r = true) := by
          show _ = _
          rw [h3]; simp [e6.2 (Or.inl hbk)]
        rw [hbk] at c5
        clear h1 h2 e3 e4 hk' hkl q e2 h3 e6 hbk
        go_wp2_with fail
        go_ret
        exact ⟨by (rw [HE.out]) <;> rfl, rfl⟩
      | false =>
        have qq := q (a.par : Int)
        unfold posZ at qq
        rw [e4] at qq
        have HE : Hid (∃ x i', fnd m.tx x = some (t, i') ∧ posN L x = some j' ∧ r = decide (fate t i' = 2)) := ⟨_, _, e3, e4, by
          rw [h3]
          rw [hbk] at e6
          simp only [Bool.false_eq_true, false_or] at e6
          simp [e6]⟩
        obtain ⟨s, hs⟩ : ∃ s : Nat, s = a.par := ⟨_, rfl⟩
        rw [hbk] at c5
        rw [← hs] at c1 qq e2
        have hne : ((s : Int) == 0) = false := beq_eq_false_iff_ne.2 (by omega)
        simp only [] at qq
        clear h1 h2 e3 e4 hs hk' hkl q e2 h3 e6 hbk
        go_wp2_with fail
        refine qq.mono ?_
        rintro y wy ⟨rfl, hwy⟩
        subst hwy
        clear qq
        go_wp2_with fail
        go_roundw
        case rel => exact ⟨j', rfl, by omega, trivial, HE⟩
        case measure => simp [intOf]; omega
/-- Is what stands under a number another one, or within it? -/
def winA (t : Tx) (i : Int) (t' : Tx) (o : Int) : Bool := decide (t.x = t'.x) && within t'.ps o t'.ps.length i
set_option maxHeartbeats 2000000 in
set_option maxRecDepth 100000 in
theorem rwithin_any (b : Nat) (ao : Option Addr) (c : Nat) (m : Mg) (L : List Nm) (w : World) (h : NR w b ao c L) (hm : Rel m L) (n0 : Int) (t : Tx) (i0 : Int) (hf : fnd m.tx n0 = some (t, i0)) (j0 : Nat) (hj : posN L n0 = some j0) (n1 : Int) (t' : Tx) (o : Int) (hf1 : fnd m.tx n1 = some (t', o)) (j1 : Nat) (hj1 : posN L n1 = some j1) :
    Calls Try.prog 45 #[.pointer (some ⟨b, 0, none⟩), .int .i64 j0, .int .i64 j1] w fun x w' => x = .returned (.bool (winA t i0 t' o)) ∧ w' = w := by
  have hl := hm.len
  obtain ⟨n, hn⟩ : ∃ n, n = L.length := ⟨_, rfl⟩
  have hb := h.c0
  rw [← hn] at hb hl
  have q : ∀ id : Int, Calls Try.prog 33 #[.pointer (some ⟨b, 0, none⟩), .int .i64 id] w fun x w' => x = .returned (.int .i64 (posZ L id)) ∧ w' = w := fun id => rat_any b ao c L id w h hm.len
  have Hn : Hid (n = L.length) := hn
  have HT : Hid _ := h
  have HM : Hid _ := hm
  have HS : Hid (fnd m.tx n0 = some (t, i0) ∧ posN L n0 = some j0) := ⟨hf, hj⟩
  have HS1 : Hid (fnd m.tx n1 = some (t', o) ∧ posN L n1 = some j1) := ⟨hf1, hj1⟩
  have hj0 : j0 < n := by
    obtain ⟨a, ha, _⟩ := posN_some hj
    have := (List.getElem?_eq_some_iff.1 ha).1; omega
  have hj1' : j1 < n := by
    obtain ⟨a, ha, _⟩ := posN_some hj1
    have := (List.getElem?_eq_some_iff.1 ha).1; omega
  obtain ⟨r, hr⟩ : ∃ r, r = winA t i0 t' o := ⟨_, rfl⟩
  have Hr : Hid (r = winA t i0 t' o) := hr
  rw [← hr]
  clear h hn hm hf hj hr hf1 hj1
  go_enter Try.func45, Try.ntmps45
  go_wp2_with fail
  go_loopw [1] (fun i wr => ∃ k : Nat, i = .int .i64 k ∧ k < n ∧ wr = w ∧ Hid (∃ x i', fnd m.tx x = some (t, i') ∧ posN L x = some k ∧ r = winA t i' t' o)) (fun i _ => (intOf i).toNat)
  case atStart => exact ⟨j0, rfl, hj0, rfl, ⟨_, _, HS.out.1, HS.out.2, Hr.out⟩⟩
  case round =>
    obtain ⟨k, rfl, hk, hwr, HK⟩ := hrel
    subst hwr
    have hkl : k < L.length := by have := Hn.out; omega
    obtain ⟨a, hk'⟩ : ∃ a, L[k]? = some a := ⟨_, List.getElem?_eq_getElem hkl⟩
    obtain ⟨g, rfl, -, c1, -⟩ := HT.out.el k _ hk'
    obtain ⟨x, i', h1, h2, h3⟩ := HK.out
    by_cases hkj : k = j1
    · have HE : Hid (r = true) := by
        show _ = _
        obtain ⟨f1, f2⟩ := HS1.out
        obtain ⟨a1, b1, b2⟩ := posN_some h2
        obtain ⟨a2, b3, b4⟩ := posN_some f2
        rw [hkj, b3] at b1
        injection b1 with b1
        subst b1
        have : x = n1 := by omega
        subst this
        rw [h1] at f1
        injection f1 with f1
        injection f1 with f1 f3
        subst f1 f3
        rw [h3]
        unfold winA
        rw [within_stop _ (by omega)]
        simp
      subst hkj
      clear h1 h2 h3 hk' hkl q
      go_wp2_with fail
      go_ret
      exact ⟨by (rw [HE.out]) <;> rfl, rfl⟩
    · have hne1 : ((k : Int) == (j1 : Int)) = false := beq_eq_false_iff_ne.2 (by omega)
      have hne2 : ((k : Int) != (j1 : Int)) = true := by rw [bne, hne1]; rfl
      have hio : t = t' → i' ≠ o := fun e e2 => by
        subst e e2
        obtain ⟨f1, f2⟩ := HS1.out
        have hx : x = n1 := by
          have m1 := (fnd_mem h1).2
          have m2 := (fnd_mem f1).2
          rcases m1 with ⟨e, e1⟩ | ⟨k1, p1, e, _, hp1, e1, _⟩
          · rcases m2 with ⟨_, e3⟩ | ⟨k2, p2, e3, _⟩
            · omega
            · omega
          · rcases m2 with ⟨e3, _⟩ | ⟨k2, p2, e3, _, hp2, e4, _⟩
            · omega
            · have : k1 = k2 := by omega
              subst this
              rw [hp1] at hp2
              injection hp2 with hp2
              subst hp2
              omega
        subst hx
        rw [h2] at f2
        injection f2 with f2
        exact hkj f2
      have htm := (fnd_mem h1).1
      have htm' := (fnd_mem HS1.out.1).1
      have htt : t.x = t'.x → t = t' := HM.out.wf.uniq t htm t' htm'
      have hoo : -1 ≤ o := by rcases fnd_cases HS1.out.1 with e | ⟨k2, e, _⟩ <;> omega
      rcases fnd_cases h1 with rfl | ⟨kp, rfl, _⟩
      · obtain ⟨e0, e1, e2, _⟩ := HM.out.root h1 h2 hk'
        have HE : Hid (r = false) := by
          show _ = _
          rw [h3]
          unfold winA
          by_cases he : t.x = t'.x
          · rw [within_stop _ (by omega)]
            have := hio (htt he)
            simp [this]
          · simp [he]
        rw [e2] at c1
        clear h1 h2 e0 e1 e2 hk' hkl q h3 hio htm htm' htt hoo hkj
        go_wp2_with fail
        go_ret
        exact ⟨by (rw [HE.out]) <;> rfl, rfl⟩
      · obtain ⟨p, j', hp, e2, e3, e4, e5, e7, e8, e6, _⟩ := HM.out.step h1 h2 hk'
        have qq := q (a.par : Int)
        unfold posZ at qq
        rw [e4] at qq
        have HE : Hid (∃ x i', fnd m.tx x = some (t, i') ∧ posN L x = some j' ∧ r = winA t i' t' o) := ⟨_, _, e3, e4, by
          rw [h3]
          unfold winA
          by_cases he : t.x = t'.x
          · have ht := htt he
            subst ht
            congr 1
            by_cases hlt : o < kp
            · exact within_up (fun i p hp => ⟨(HM.out.wf.ar t htm i p hp).1, (HM.out.wf.ar t htm i p hp).2.1⟩) hoo hp hlt
            · have := hio rfl
              rw [within_stop _ hlt, within_stop _ (by omega)]
              rw [beq_eq_false_iff_ne.2 this, beq_eq_false_iff_ne.2 (by omega)]
          · simp [he]⟩
        obtain ⟨s, hs⟩ : ∃ s : Nat, s = a.par := ⟨_, rfl⟩
        rw [← hs] at c1 qq e2
        have hne : ((s : Int) == 0) = false := beq_eq_false_iff_ne.2 (by omega)
        have hneb : ((s : Int) != 0) = true := by rw [bne, hne]; rfl
        simp only [] at qq
        clear h1 h2 e3 e4 hs hk' hkl q e2 h3 e6 hio htm htm' htt hoo hkj hp e7 e8
        go_wp2_with fail
        refine qq.mono ?_
        rintro y wy ⟨rfl, hwy⟩
        subst hwy
        clear qq
        go_wp2_with fail
        go_roundw
        case rel => exact ⟨j', rfl, by omega, trivial, HE⟩
        case measure => simp [intOf]; omega
end Go.Proofs.Ytolobljlkdacjaa
/- The document's manager: live, xact, part, State, Top. -/
namespace Go.Proofs.Ytolobljlkdacjaa
open Go.RowKit Go

theorem NR.tch {S : Nat → Prop} {w w' : World} {b : Nat} {ao : Option Addr} {c : Nat} {L : List Nm} (h : NR w b ao c L) (t : Tch S w w') (hb : ¬ S b) (hg : ∀ g, ao = some ⟨g, 0, none⟩ → ¬ S g) : NR w' b ao c L := by
  refine ⟨by rw [t.cell (p := ⟨b, 0, none⟩) (cell_lt h.c0) hb]; exact h.c0, fun k a ha => ?_⟩
  obtain ⟨g, e, h0, h1, h2, h3, h4, h5⟩ := h.el k a ha
  refine ⟨g, e, ?_, ?_, ?_, ?_, ?_, ?_⟩
  · rw [t.cell (cell_lt h0) (hg g e)]; exact h0
  · rw [t.cell (cell_lt h1) (hg g e)]; exact h1
  · rw [t.cell (cell_lt h2) (hg g e)]; exact h2
  · rw [t.cell (cell_lt h3) (hg g e)]; exact h3
  · rw [t.cell (cell_lt h4) (hg g e)]; exact h4
  · rw [t.cell (cell_lt h5) (hg g e)]; exact h5
theorem NR.no {w w' : World} {b : Nat} {ao : Option Addr} {c : Nat} {L : List Nm} (h : NR w b ao c L) (t : Tch (fun _ => False) w w') : NR w' b ao c L := h.tch t (fun h => h) (fun _ _ h => h)
theorem drewN_tch (w : World) (q : Nat) : Tch (fun _ => False) w (w.drewN q) := (Tch.refl _ w).drewN q
theorem NR.dr {w : World} {b : Nat} {ao : Option Addr} {c : Nat} {L : List Nm} (h : NR w b ao c L) (q : Nat) : NR (w.drewN q) b ao c L := h.no (drewN_tch w q)

set_option maxHeartbeats 1000000 in
theorem rlive_any (b : Nat) (ao : Option Addr) (c : Nat) (m : Mg) (L : List Nm) (w : World) (h : NR w b ao c L) (hm : Rel m L) (n0 : Int) (t : Tx) (i0 : Int) (hf : fnd m.tx n0 = some (t, i0)) (j0 : Nat) (hj : posN L n0 = some j0) (a : Nm) (ha : L[j0]? = some a) :
    Calls Try.prog 42 #[.pointer (some ⟨b, 0, none⟩), .int .i64 j0] w fun x w' => x = .returned (.bool (!a.rl && !decide (fate t i0 = 2))) ∧ w' = w := by
  have q := rtaken_any b ao c m L w h hm n0 t i0 hf j0 hj
  have hl := hm.len
  have hj0 := (List.getElem?_eq_some_iff.1 ha).1
  have hb := h.c0
  obtain ⟨g, rfl, -, -, -, -, c4, -⟩ := h.el j0 a ha
  obtain ⟨n, hn⟩ : ∃ n, n = L.length := ⟨_, rfl⟩
  rw [← hn] at hb hl hj0
  obtain ⟨r, hr⟩ : ∃ r, r = decide (fate t i0 = 2) := ⟨_, rfl⟩
  rw [← hr] at q ⊢
  have h1 : (j0 : Int) < n := by omega
  clear h hm hf hj ha hn hr
  cases hrl : a.rl with
  | true =>
    rw [hrl] at c4
    clear hrl q
    go_enter Try.func42, Try.ntmps42
    go_wp2_with fail
    go_ret
    exact ⟨rfl, rfl⟩
  | false =>
    rw [hrl] at c4
    clear hrl
    go_enter Try.func42, Try.ntmps42
    go_wp2_with fail
    refine q.mono ?_
    rintro y wy ⟨rfl, hwy⟩
    subst hwy
    clear q
    go_wp2_with fail
    go_ret
    exact ⟨rfl, rfl⟩
/-- Which transaction stands under a number, in the list. -/
def xactA (m : Mg) (L : List Nm) (n : Int) : Nat × Nat := match fnd m.tx n with
  | some (_, -1) => ((posN L n).getD 0, 0)
  | _ => (0, 70)
set_option maxHeartbeats 1000000 in
theorem rxact_no (b : Nat) (ao : Option Addr) (c : Nat) (m : Mg) (L : List Nm) (w : World) (h : NR w b ao c L) (hm : Rel m L) (n : Int) (hf : ∀ t, fnd m.tx n ≠ some (t, -1)) :
    Calls Try.prog 47 #[.pointer (some ⟨b, 0, none⟩), .int .i64 n] w fun x w' => x = .returned (.tuple #[.int .i64 0, .int .i64 70]) ∧ w' = w := by
  have q := rat_any b ao c L n w h hm.len
  cases hp : fnd m.tx n with
  | none =>
    unfold posZ at q
    rw [hm.no n hp] at q
    simp only [] at q
    clear h hm hp hf
    go_enter Try.func47, Try.ntmps47
    go_wp2_with fail
    refine q.mono ?_
    rintro y wy ⟨rfl, hwy⟩
    subst hwy
    clear q
    go_wp2_with fail
    go_ret2
    exact ⟨rfl, rfl⟩
  | some z =>
    obtain ⟨t, i⟩ := z
    rcases fnd_cases hp with rfl | ⟨k, rfl, _⟩
    · exact absurd hp (hf t)
    · obtain ⟨j, a, h1, h2, h3, _⟩ := hm.yes _ _ _ hp
      obtain ⟨-, -, -, e2, -⟩ := hm.step hp h1 h2
      unfold posZ at q
      rw [h1] at q
      simp only [] at q
      have hl := hm.len
      have hj0 := (List.getElem?_eq_some_iff.1 h2).1
      have hb := h.c0
      obtain ⟨g, rfl, -, c1, -⟩ := h.el j a h2
      obtain ⟨nn, hn⟩ : ∃ n, n = L.length := ⟨_, rfl⟩
      rw [← hn] at hb hl hj0
      have h1' : (j : Int) < nn := by omega
      obtain ⟨s, hs⟩ : ∃ s : Nat, s = a.par := ⟨_, rfl⟩
      rw [← hs] at c1 e2
      have hne : ((s : Int) == 0) = false := beq_eq_false_iff_ne.2 (by omega)
      have hneb : ((s : Int) != 0) = true := by rw [bne, hne]; rfl
      clear h hm hp hf h1 h2 h3 hn hs e2
      go_enter Try.func47, Try.ntmps47
      go_wp2_with fail
      refine q.mono ?_
      rintro y wy ⟨rfl, hwy⟩
      subst hwy
      clear q
      go_wp2_with fail
      go_ret2
      exact ⟨rfl, rfl⟩
set_option maxHeartbeats 1000000 in
theorem rxact_is (b : Nat) (ao : Option Addr) (c : Nat) (m : Mg) (L : List Nm) (w : World) (h : NR w b ao c L) (hm : Rel m L) (n : Int) (t : Tx) (hf : fnd m.tx n = some (t, -1)) (j : Nat) (hj : posN L n = some j) :
    Calls Try.prog 47 #[.pointer (some ⟨b, 0, none⟩), .int .i64 n] w fun x w' => x = .returned (.tuple #[.int .i64 j, .int .i64 0]) ∧ w' = w := by
  have q := rat_any b ao c L n w h hm.len
  unfold posZ at q
  rw [hj] at q
  simp only [] at q
  obtain ⟨a, h2, h3⟩ := posN_some hj
  obtain ⟨-, -, e2, -⟩ := hm.root hf hj h2
  have hl := hm.len
  have hj0 := (List.getElem?_eq_some_iff.1 h2).1
  have hb := h.c0
  obtain ⟨g, rfl, -, c1, -⟩ := h.el j a h2
  obtain ⟨nn, hn⟩ : ∃ n, n = L.length := ⟨_, rfl⟩
  rw [← hn] at hb hl hj0
  have h1' : (j : Int) < nn := by omega
  have c1' : w.cell? ⟨g, j * 6 + 1, none⟩ = some (.int .i64 0) := by rw [c1, e2]; rfl
  clear c1
  clear h hm hf hj h2 h3 hn e2
  go_enter Try.func47, Try.ntmps47
  go_wp2_with fail
  refine q.mono ?_
  rintro y wy ⟨rfl, hwy⟩
  subst hwy
  clear q
  go_wp2_with fail
  go_ret2
  exact ⟨rfl, rfl⟩
set_option maxHeartbeats 1000000 in
theorem rstate_any (b : Nat) (ao : Option Addr) (c : Nat) (m : Mg) (L : List Nm) (w : World) (h : NR w b ao c L) (hm : Rel m L) (n : Int) :
    Calls Try.prog 10 #[.pointer (some ⟨b, 0, none⟩), .int .i64 n] w fun x w' => x = .returned (.int .i64 (m.state n)) ∧ ∃ q, w' = w.drewN q := by
  have q := rat_any b ao c L n w h hm.len
  unfold Mg.state
  cases hp : fnd m.tx n with
  | none =>
    unfold posZ at q
    rw [hm.no n hp] at q
    simp only [] at q
    have HE : Hid (stE none = 0) := rfl
    clear h hm hp
    go_enter Try.func10, Try.ntmps10
    go_wp2_with fail
    refine q.mono ?_
    rintro y wy ⟨rfl, hwy⟩
    subst hwy
    clear q
    go_wp2_with fail
    go_ret
    exact ⟨rfl, 0, rfl⟩
  | some z =>
    obtain ⟨t, i⟩ := z
    obtain ⟨j, a, h1, h2, h3, _⟩ := hm.yes _ _ _ hp
    have q2 := rtaken_any b ao c m L w h hm n t i hp j h1
    obtain ⟨jt, at', ht1, ht2, ht3, _⟩ := hm.yes _ _ _ (hm.wf.fnd_tx (fnd_mem hp).1)
    have q3 : ∀ q, Calls Try.prog 35 #[.pointer (some ⟨b, 0, none⟩), .int .i64 j] (w.drewN q) fun e w'' => e = .returned (.int .i64 jt) ∧ ∃ m, w'' = w.drewN m := fun q => Calls.quiet_of_same (rtop_any b ao c m L (w.drewN q) (h.dr q) hm n t i hp j h1 jt ht1)
    obtain ⟨-, -, -, e2, -⟩ := hm.root (hm.wf.fnd_tx (fnd_mem hp).1) ht1 ht2
    unfold posZ at q
    rw [h1] at q
    simp only [] at q
    have hl := hm.len
    have hj0 := (List.getElem?_eq_some_iff.1 ht2).1
    have hb := h.c0
    obtain ⟨g, rfl, -, -, c2, -⟩ := h.el jt at' ht2
    obtain ⟨nn, hn⟩ : ∃ n, n = L.length := ⟨_, rfl⟩
    rw [← hn] at hb hl hj0
    have h1' : (jt : Int) < nn := by omega
    rw [e2] at c2
    have HS : Hid (stE (some (t, i)) = if fate t i = 2 then 4 else t.st) := rfl
    by_cases h4 : fate t i = 2
    · rw [decide_eq_true h4] at q2
      rw [if_pos h4] at HS
      clear h hm hp h1 h2 h3 hn e2 ht1 ht2 ht3 q3 h4
      go_enter Try.func10, Try.ntmps10
      go_wp2_with fail
      refine q.mono ?_
      rintro y wy ⟨rfl, hwy⟩
      subst hwy
      clear q
      go_wp2_with fail
      refine q2.mono ?_
      rintro y wy ⟨rfl, hwy⟩
      subst hwy
      clear q2
      go_wp2_with fail
      go_ret
      exact ⟨by rw [HS.out]; rfl, 0, rfl⟩
    · rw [decide_eq_false h4] at q2
      rw [if_neg h4] at HS
      obtain ⟨s, hs⟩ : ∃ s : Nat, s = t.st := ⟨_, rfl⟩
      rw [← hs] at c2 HS
      clear h hm hp h1 h2 h3 hn e2 ht1 ht2 ht3 h4 hs
      go_enter Try.func10, Try.ntmps10
      go_wp2_with fail
      refine q.mono ?_
      rintro y wy ⟨rfl, hwy⟩
      subst hwy
      clear q
      go_wp2_with fail
      refine q2.mono ?_
      rintro y wy ⟨rfl, hwy⟩
      subst hwy
      clear q2
      go_wp2_with fail
      refine wp_region_quiet_lit (by kernel_rfl) (by kernel_rfl) ?_
      repeat (first | go_big_quiet_step (fail) | go_big_quiet_step ((go_at_call 35; exact q3 _)))
      refine wpQuiet_nil ?_
      rintro w1 ⟨nq, rfl⟩
      go_wp2
      go_ret
      exact ⟨by rw [HS.out]; rfl, nq, rfl⟩
end Go.Proofs.Ytolobljlkdacjaa
/- The document's manager: part, Top, Next, New. -/
namespace Go.Proofs.Ytolobljlkdacjaa
open Go.RowKit Go

theorem rnext_any (b : Nat) (th : Int) (w : World) (h : w.cell? ⟨b, 1, none⟩ = some (.int .i64 th)) :
    Calls Try.prog 6 #[.pointer (some ⟨b, 0, none⟩)] w fun x w' => x = .returned (.int .i64 th) ∧ w' = w := by
  go_enter Try.func6, Try.ntmps6
  go_wp2
  go_ret
  exact ⟨rfl, rfl⟩
theorem rnew_no (n : Int) (w : World) (h : n < 1 ∨ 2147483648 < n) :
    Calls Try.prog 13 #[.int .i64 n] w fun x w' => x = .returned (.tuple #[.pointer none, .int .i64 1]) ∧ w' = w := by
  by_cases h1 : n < 1
  · clear h
    go_enter Try.func13, Try.ntmps13
    go_wp2
    go_ret2
    exact ⟨rfl, rfl⟩
  · have h2 : 2147483648 < n := by omega
    clear h
    go_enter Try.func13, Try.ntmps13
    go_wp2
    go_ret2
    exact ⟨rfl, rfl⟩
theorem rnew_ok (n : Int) (w : World) (h1 : 1 ≤ n) (h2 : n ≤ 2147483648) :
    Calls Try.prog 13 #[.int .i64 n] w fun x w' => x = .returned (.tuple #[.pointer (some ⟨w.heap.size, 0, none⟩), .int .i64 0]) ∧ w' = w.alloc (.cells #[.slice none 0 0, .int .i64 n] 50) := by
  have h3 : ¬ n < 1 := by omega
  have h4 : ¬ n > 2147483648 := by omega
  go_enter Try.func13, Try.ntmps13
  go_wp2
  go_ret2
  exact ⟨rfl, rfl⟩
set_option maxHeartbeats 1000000 in
theorem rtopn_any (b : Nat) (ao : Option Addr) (c : Nat) (m : Mg) (L : List Nm) (w : World) (h : NR w b ao c L) (hm : Rel m L) (n : Int) :
    Calls Try.prog 52 #[.pointer (some ⟨b, 0, none⟩), .int .i64 n] w fun x w' => x = .returned (match fnd m.tx n with | none => .tuple #[.int .i64 0, .int .i64 70] | some (t, _) => .tuple #[.int .i64 t.x, .int .i64 0]) ∧ ∃ q, w' = w.drewN q := by
  have q := rat_any b ao c L n w h hm.len
  cases hp : fnd m.tx n with
  | none =>
    unfold posZ at q
    rw [hm.no n hp] at q
    simp only [] at q ⊢
    clear h hm hp
    go_enter Try.func52, Try.ntmps52
    go_wp2_with fail
    refine q.mono ?_
    rintro y wy ⟨rfl, hwy⟩
    subst hwy
    clear q
    go_wp2_with fail
    go_ret2
    exact ⟨rfl, 0, rfl⟩
  | some z =>
    obtain ⟨t, i⟩ := z
    obtain ⟨j, a, h1, h2, h3, _⟩ := hm.yes _ _ _ hp
    obtain ⟨jt, at', ht1, ht2, ht3, _⟩ := hm.yes _ _ _ (hm.wf.fnd_tx (fnd_mem hp).1)
    have q3 : ∀ q, Calls Try.prog 35 #[.pointer (some ⟨b, 0, none⟩), .int .i64 j] (w.drewN q) fun e w'' => e = .returned (.int .i64 jt) ∧ ∃ m, w'' = w.drewN m := fun q => Calls.quiet_of_same (rtop_any b ao c m L (w.drewN q) (h.dr q) hm n t i hp j h1 jt ht1)
    obtain ⟨-, e2, -⟩ := hm.root (hm.wf.fnd_tx (fnd_mem hp).1) ht1 ht2
    unfold posZ at q
    rw [h1] at q
    simp only [] at q ⊢
    have hl := hm.len
    have hj0 := (List.getElem?_eq_some_iff.1 ht2).1
    have hb := h.c0
    obtain ⟨g, rfl, c0, -⟩ := h.el jt at' ht2
    obtain ⟨nn, hn⟩ : ∃ n, n = L.length := ⟨_, rfl⟩
    rw [← hn] at hb hl hj0
    have h1' : (jt : Int) < nn := by omega
    rw [e2] at c0
    obtain ⟨s, hs⟩ : ∃ s : Nat, s = t.x := ⟨_, rfl⟩
    rw [← hs] at c0 ⊢
    clear h hm hp h1 h2 h3 hn e2 ht1 ht2 ht3 hs
    go_enter Try.func52, Try.ntmps52
    go_wp2_with fail
    refine q.mono ?_
    rintro y wy ⟨rfl, hwy⟩
    subst hwy
    clear q
    go_wp2_with fail
    refine wp_region_quiet_lit (by kernel_rfl) (by kernel_rfl) ?_
    repeat (first | go_big_quiet_step (fail) | go_big_quiet_step ((go_at_call 35; exact q3 _)))
    refine wpQuiet_nil ?_
    rintro w1 ⟨nq, rfl⟩
    go_wp2
    go_ret2
    exact ⟨rfl, nq, rfl⟩
set_option maxHeartbeats 1000000 in
theorem rpart_none (b : Nat) (ao : Option Addr) (c : Nat) (m : Mg) (L : List Nm) (w : World) (h : NR w b ao c L) (hm : Rel m L) (n : Int) (hf : ∀ t (k : Nat), fnd m.tx n ≠ some (t, (k : Int))) :
    Calls Try.prog 44 #[.pointer (some ⟨b, 0, none⟩), .int .i64 n] w fun x w' => x = .returned (.tuple #[.int .i64 0, .int .i64 70]) ∧ w' = w := by
  have q := rat_any b ao c L n w h hm.len
  cases hp : fnd m.tx n with
  | none =>
    unfold posZ at q
    rw [hm.no n hp] at q
    simp only [] at q
    clear h hm hp hf
    go_enter Try.func44, Try.ntmps44
    go_wp2_with fail
    refine q.mono ?_
    rintro y wy ⟨rfl, hwy⟩
    subst hwy
    clear q
    go_wp2_with fail
    go_ret2
    exact ⟨rfl, rfl⟩
  | some z =>
    obtain ⟨t, i⟩ := z
    rcases fnd_cases hp with rfl | ⟨k, rfl, _⟩
    · obtain ⟨j, a, h1, h2, h3, _⟩ := hm.yes _ _ _ hp
      obtain ⟨-, -, e2, -⟩ := hm.root hp h1 h2
      unfold posZ at q
      rw [h1] at q
      simp only [] at q
      have hl := hm.len
      have hj0 := (List.getElem?_eq_some_iff.1 h2).1
      have hb := h.c0
      obtain ⟨g, rfl, -, c1, -⟩ := h.el j a h2
      obtain ⟨nn, hn⟩ : ∃ n, n = L.length := ⟨_, rfl⟩
      rw [← hn] at hb hl hj0
      have h1' : (j : Int) < nn := by omega
      have c1' : w.cell? ⟨g, j * 6 + 1, none⟩ = some (.int .i64 0) := by rw [c1, e2]; rfl
      clear h hm hp hf h1 h2 h3 hn e2 c1
      go_enter Try.func44, Try.ntmps44
      go_wp2_with fail
      refine q.mono ?_
      rintro y wy ⟨rfl, hwy⟩
      subst hwy
      clear q
      go_wp2_with fail
      go_ret2
      exact ⟨rfl, rfl⟩
    · exact absurd hp (hf t k)
set_option maxHeartbeats 2000000 in
theorem rpart_some (b : Nat) (ao : Option Addr) (c : Nat) (m : Mg) (L : List Nm) (w : World) (h : NR w b ao c L) (hm : Rel m L) (n : Int) (t : Tx) (k : Nat) (hp : fnd m.tx n = some (t, (k : Int))) (j : Nat) (h1 : posN L n = some j) :
    Calls Try.prog 44 #[.pointer (some ⟨b, 0, none⟩), .int .i64 n] w fun x w' => x = .returned (if may t k then .tuple #[.int .i64 j, .int .i64 0] else .tuple #[.int .i64 0, .int .i64 71]) ∧ ∃ q, w' = w.drewN q := by
  obtain ⟨rv, hrv⟩ : ∃ rv, rv = (if may t k then Value.tuple #[.int .i64 j, .int .i64 0] else .tuple #[.int .i64 0, .int .i64 71]) := ⟨_, rfl⟩
  rw [← hrv]
  have HRv : Hid _ := hrv
  clear hrv
  have q := rat_any b ao c L n w h hm.len
  obtain ⟨a, h2, h3⟩ := posN_some h1
  obtain ⟨p, _, hpp, e2, -, -, -, -, -, -, e6⟩ := hm.step hp h1 h2
  have q2 := rlive_any b ao c m L w h hm n t k hp j h1 a h2
  have hlive : (!a.rl && !decide (fate t k = 2)) = decide (fate t k = 0) := by
    rw [fate_pt hpp]
    cases ha : a.rl with
    | true =>
      rw [ha] at e6
      have : p.ft ≠ 0 := e6.2 (Or.inl rfl)
      simp [this]
    | false =>
      rw [ha] at e6
      by_cases h2 : p.ft = 2
      · simp [h2]
      · have : p.ft = 0 := by
          rcases Nat.eq_zero_or_pos p.ft with e | e
          · exact e
          · rcases e6.1 (by omega) with e | e
            · cases e
            · exact absurd e h2
        simp [this]
  rw [hlive] at q2
  obtain ⟨jt, at', ht1, ht2, ht3, _⟩ := hm.yes _ _ _ (hm.wf.fnd_tx (fnd_mem hp).1)
  have q3 : ∀ q, Calls Try.prog 35 #[.pointer (some ⟨b, 0, none⟩), .int .i64 j] (w.drewN q) fun e w'' => e = .returned (.int .i64 jt) ∧ ∃ m, w'' = w.drewN m := fun q => Calls.quiet_of_same (rtop_any b ao c m L (w.drewN q) (h.dr q) hm n t k hp j h1 jt ht1)
  obtain ⟨-, -, -, e4, -⟩ := hm.root (hm.wf.fnd_tx (fnd_mem hp).1) ht1 ht2
  unfold posZ at q
  rw [h1] at q
  simp only [] at q
  have hl := hm.len
  have hj0 := (List.getElem?_eq_some_iff.1 ht2).1
  have hj1 := (List.getElem?_eq_some_iff.1 h2).1
  have hb := h.c0
  obtain ⟨g, rfl, -, -, c2, -⟩ := h.el jt at' ht2
  obtain ⟨g', e, -, c1, -⟩ := h.el j a h2
  obtain rfl : g = g' := by injection e with e; injection e
  clear e
  obtain ⟨nn, hn⟩ : ∃ n, n = L.length := ⟨_, rfl⟩
  rw [← hn] at hb hl hj0 hj1
  have h1' : (jt : Int) < nn := by omega
  have h2' : (j : Int) < nn := by omega
  rw [e4] at c2
  obtain ⟨s, hs⟩ : ∃ s : Nat, s = a.par := ⟨_, rfl⟩
  rw [← hs] at c1 e2
  have hne : ((s : Int) == 0) = false := beq_eq_false_iff_ne.2 (by omega)
  have hneb : ((s : Int) != 0) = true := by rw [bne, hne]; rfl
  obtain ⟨st, hst⟩ : ∃ s : Nat, s = t.st := ⟨_, rfl⟩
  have HM : Hid (may t k = (decide (st = 1) && decide (fate t k = 0))) := by rw [hst]; rfl
  rw [← hst] at c2
  obtain ⟨lv, hlv⟩ : ∃ lv, lv = decide (fate t k = 0) := ⟨_, rfl⟩
  rw [← hlv] at q2 HM
  clear h hm hp h1 h2 h3 hn e2 e4 ht1 ht2 ht3 hs hst e6 hlive hpp hlv
  cases lv with
  | false =>
    have HM' : Hid (may t k = false) := by show _ = _; rw [HM.out]; simp
    go_enter Try.func44, Try.ntmps44
    go_wp2_with fail
    refine q.mono ?_
    rintro y wy ⟨rfl, hwy⟩
    subst hwy
    clear q
    go_wp2_with fail
    refine q2.mono ?_
    rintro y wy ⟨rfl, hwy⟩
    subst hwy
    clear q2
    go_wp2_with fail
    refine wp_region_quiet_lit (by kernel_rfl) (by kernel_rfl) ?_
    repeat (first | go_big_quiet_step (fail) | go_big_quiet_step ((go_at_call 35; exact q3 _)))
    refine wpQuiet_nil ?_
    rintro w1 ⟨nq, rfl⟩
    go_wp2
    go_ret2
    exact ⟨by rw [HRv.out, HM'.out]; rfl, nq, rfl⟩
  | true =>
    by_cases h1 : st = 1
    · have HM' : Hid (may t k = true) := by show _ = _; rw [HM.out]; simp [h1]
      subst h1
      go_enter Try.func44, Try.ntmps44
      go_wp2_with fail
      refine q.mono ?_
      rintro y wy ⟨rfl, hwy⟩
      subst hwy
      clear q
      go_wp2_with fail
      refine q2.mono ?_
      rintro y wy ⟨rfl, hwy⟩
      subst hwy
      clear q2
      go_wp2_with fail
      refine wp_region_quiet_lit (by kernel_rfl) (by kernel_rfl) ?_
      repeat (first | go_big_quiet_step (fail) | go_big_quiet_step ((go_at_call 35; exact q3 _)))
      refine wpQuiet_nil ?_
      rintro w1 ⟨nq, rfl⟩
      go_wp2
      go_ret2
      exact ⟨by rw [HRv.out, HM'.out]; rfl, nq, rfl⟩
    · have HM' : Hid (may t k = false) := by show _ = _; rw [HM.out]; simp [h1]
      have hne1 : ((st : Int) == 1) = false := beq_eq_false_iff_ne.2 (by omega)
      have hne2 : ((st : Int) != 1) = true := by rw [bne, hne1]; rfl
      go_enter Try.func44, Try.ntmps44
      go_wp2_with fail
      refine q.mono ?_
      rintro y wy ⟨rfl, hwy⟩
      subst hwy
      clear q
      go_wp2_with fail
      refine q2.mono ?_
      rintro y wy ⟨rfl, hwy⟩
      subst hwy
      clear q2
      go_wp2_with fail
      refine wp_region_quiet_lit (by kernel_rfl) (by kernel_rfl) ?_
      repeat (first | go_big_quiet_step (fail) | go_big_quiet_step ((go_at_call 35; exact q3 _)))
      refine wpQuiet_nil ?_
      rintro w1 ⟨nq, rfl⟩
      go_wp2
      go_ret2
      exact ⟨by rw [HRv.out, HM'.out]; rfl, nq, rfl⟩
end Go.Proofs.Ytolobljlkdacjaa
