import Derived.Test.YtolobljlkdacjaaXRe7
/- The document's manager: Release. -/
namespace Go.Proofs.Ytolobljlkdacjaa
open Go.RowKit Go Go.Sort

/-- The list, the flags of the first k written. -/
def relL (wi : Nm → Bool) (k : Nat) (L : List Nm) : List Nm := L.mapIdx (fun j a => if j < k && wi a then { a with rl := true } else a)
theorem relL_get (wi : Nm → Bool) (k : Nat) (L : List Nm) (j : Nat) : (relL wi k L)[j]? = (L[j]?).map (fun a => if j < k && wi a then { a with rl := true } else a) := by
  simp [relL, List.getElem?_mapIdx]
theorem relL_len (wi : Nm → Bool) (k : Nat) (L : List Nm) : (relL wi k L).length = L.length := by simp [relL]
theorem relL_map (wi : Nm → Bool) (k : Nat) (L : List Nm) : (relL wi k L).map (·.n) = L.map (·.n) := by
  apply List.ext_getElem?
  intro j
  rw [List.getElem?_map, List.getElem?_map, relL_get]
  cases L[j]? with
  | none => rfl
  | some a => simp only [Option.map_some]; split <;> rfl
theorem relL_zero (wi : Nm → Bool) (L : List Nm) : relL wi 0 L = L := by
  apply List.ext_getElem?
  intro j
  rw [relL_get]
  cases L[j]? with
  | none => rfl
  | some a => simp
theorem relL_yes {wi : Nm → Bool} {k : Nat} {L : List Nm} {a : Nm} (ha : L[k]? = some a) (hw : wi a = true) : relL wi (k + 1) L = (relL wi k L).set k { a with rl := true } := by
  apply List.ext_getElem?
  intro j
  rw [List.getElem?_set, relL_get, relL_get, relL_len]
  by_cases hj : k = j
  · subst hj
    rw [if_pos rfl, if_pos (List.getElem?_eq_some_iff.1 ha).1, ha]
    simp [hw]
  · rw [if_neg hj]
    cases L[j]? with
    | none => rfl
    | some b =>
      simp only [Option.map_some]
      congr 1
      have : decide (j < k + 1) = decide (j < k) := by simp only [decide_eq_decide]; omega
      rw [this]
theorem relL_no {wi : Nm → Bool} {k : Nat} {L : List Nm} {a : Nm} (ha : L[k]? = some a) (hw : wi a = false) : relL wi (k + 1) L = relL wi k L := by
  apply List.ext_getElem?
  intro j
  rw [relL_get, relL_get]
  by_cases hj : k = j
  · subst hj
    rw [ha]
    simp [hw]
  · cases L[j]? with
    | none => rfl
    | some b =>
      simp only [Option.map_some]
      congr 1
      have : decide (j < k + 1) = decide (j < k) := by simp only [decide_eq_decide]; omega
      rw [this]
/-- Which are within. -/
def winN (m : Mg) (t : Tx) (o : Int) (a : Nm) : Bool := match fnd m.tx (a.n : Int) with
  | some (u, i) => winA u i t o
  | none => false
theorem Rel.release {m : Mg} {L : List Nm} (h : Rel m L) {k : Int} {t : Tx} {i : Nat} (ht : fnd m.tx k = some (t, (i : Int))) : Rel (m.endp t.x i 1) (relL (winN m t i) L.length L) := by
  have hg : ∀ (j : Nat) b b', L[j]? = some b → (relL (winN m t i) L.length L)[j]? = some b' → b' = if winN m t i b then { b with rl := true } else b := fun j b b' hb hb' => by
    rw [relL_get, hb] at hb'
    simp only [Option.map_some, Option.some.injEq] at hb'
    have hl := (List.getElem?_eq_some_iff.1 hb).1
    rw [← hb']
    simp [hl]
  refine h.endp ht (Or.inl rfl) (relL_map _ _ _) (fun j b b' hb hb' => ?_) (fun j b b' u ii hb hb' hu => ⟨(fun _ => ?_), (fun e => by omega)⟩)
  · rw [hg j b b' hb hb']
    split <;> exact ⟨rfl, rfl, rfl⟩
  · rw [hg j b b' hb hb']
    have hw : winN m t i b = (decide (u.x = t.x) && within t.ps i t.ps.length ii) := by
      unfold winN
      rw [hu]
      rfl
    rw [← hw]
    cases winN m t i b with
    | true => simp
    | false => simp
set_option maxHeartbeats 1000000 in
set_option maxRecDepth 100000 in
theorem rrelease_ok (b : Nat) (m : Mg) (w : World) (F : Nat → Prop) (L : List Nm) (ao : Option Addr) (c : Nat) (hR : Rel m L) (hO : RO w b L m.nx (.slice ao L.length c)) (hN : NR w b ao c L) (h3 : ¬ F b) (h4 : ∀ g, (Value.slice ao L.length c).ownBlock = some g → ¬ F g) (h5 : ∀ i, F i → i < w.heap.size) (k : Int) (t : Tx) (i : Nat) (ht : fnd m.tx k = some (t, (i : Int))) (hm : may t i = true) :
    Calls Try.prog 19 #[.pointer (some ⟨b, 0, none⟩), .int .i64 k] w fun x w' => x = .returned (.int .i64 0) ∧ RF w' b (m.endp t.x i 1) F ∧ Kept F w w' := by
  obtain ⟨j, a, f1, f2, f3, -⟩ := hR.yes _ _ _ ht
  have q := rpart_some b ao c m L w hN hR k t i ht j f1
  rw [if_pos hm] at q
  obtain ⟨g, rfl, -⟩ := hN.el j a f2
  have hl := hR.len
  obtain ⟨n, hn⟩ : ∃ n, n = L.length := ⟨_, rfl⟩
  have Hn : Hid (n = L.length) := hn
  have hj : j < n := by have := (List.getElem?_eq_some_iff.1 f2).1; omega
  -- the state of the loop
  obtain ⟨I, hI⟩ : ∃ I : Nat → World → Prop, I = fun kk W => RO W b (relL (winN m t i) kk L) m.nx (.slice (some ⟨g, 0, none⟩) n c) ∧ Tch (fun i => i = g) w W := ⟨_, rfl⟩
  have hI0 : ∀ nq, I 0 (w.drewN nq) := fun nq => by
    rw [hI]
    refine ⟨?_, (drewN_tch w nq).mono (fun _ _ h => h.elim)⟩
    rw [relL_zero, hn]
    exact hO.tch (drewN_tch w nq) (fun h => h) (fun _ _ h => h)
  have hNR : ∀ kk W, I kk W → NR W b (some ⟨g, 0, none⟩) c (relL (winN m t i) kk L) := fun kk W h => by
    rw [hI] at h
    obtain ⟨ao', c', e, hN'⟩ := h.1.nr
    injection e with e1 e2 e3
    rw [e1, e3]
    exact hN'
  have hb0 : ∀ kk W, I kk W → W.cell? ⟨b, 0, none⟩ = some (.slice (some ⟨g, 0, none⟩) n c) := fun kk W h => by
    have := (hNR kk W h).c0
    rw [relL_len, ← hn] at this
    exact this
  have hcall : ∀ (kk : Nat) W, I kk W → kk < n → ∃ x : Bool, (Calls Try.prog 45 #[.pointer (some ⟨b, 0, none⟩), .int .i64 kk, .int .i64 j] W fun y w' => y = .returned (.bool x) ∧ w' = W) ∧ (x = true → W.frozen? ⟨g, kk * 6 + 4, none⟩ = false ∧ (∃ r : Bool, W.cell? ⟨g, kk * 6 + 4, none⟩ = some (.bool r)) ∧ I (kk + 1) (W.setCell ⟨g, kk * 6 + 4, none⟩ (.bool true))) ∧ (x = false → I (kk + 1) W) := fun kk W h hk => by
    obtain ⟨a', ha'⟩ : ∃ a', L[kk]? = some a' := ⟨_, List.getElem?_eq_getElem (by omega)⟩
    obtain ⟨hp, u, ii, hu, -⟩ := hR.at ha'
    have hw : winN m t i a' = winA u ii t i := by unfold winN; rw [hu]
    refine ⟨winN m t i a', ?_, fun hx => ?_, fun hx => ?_⟩
    · rw [hw]
      exact rwithin2 b _ c m L _ W (hNR kk W h) hR (relL_len _ _ _) (relL_map _ _ _) (fun j a1 a2 h1 h2 => by
        rw [relL_get, h2] at h1
        simp only [Option.map_some, Option.some.injEq] at h1
        rw [← h1]; split <;> rfl) _ u ii hu kk hp k t i ht j f1
    · have hget : (relL (winN m t i) kk L)[kk]? = some a' := by rw [relL_get, ha']; simp
      obtain ⟨g', e, -, -, -, -, c4, -⟩ := (hNR kk W h).el kk a' hget
      obtain rfl : g = g' := by injection e with e; injection e
      rw [hI] at h ⊢
      refine ⟨h.1.frz (g := g) rfl _, ⟨_, c4⟩, ?_, h.2.setCellR _ _ rfl⟩
      rw [relL_yes ha' hx]
      exact h.1.set (g := g) rfl hget _ 4 _ (by omega) (by simp [cel])
    · rw [hI] at h ⊢
      show RO W b (relL (winN m t i) (kk + 1) L) m.nx _ ∧ _
      rw [relL_no ha' hx]
      exact h
  have HFin : Hid (∀ W, I n W → RF W b (m.endp t.x i 1) F ∧ Kept F w W) := fun W h => by
    rw [hI] at h
    have hg := h4 g rfl
    refine ⟨⟨relL (winN m t i) L.length L, .slice (some ⟨g, 0, none⟩) n c, hR.release ht, ?_, h3, fun g' hg' => ?_, fun i hi => Nat.lt_of_lt_of_le (h5 i hi) h.2.size⟩, h.2.mono (fun i _ e => by rw [e]; exact hg)⟩
    · rw [← hn]; exact h.1
    · injection hg' with hg'
      rw [← hg']; exact hg
  have HI0 : Hid _ := hI0
  have Hb0 : Hid _ := hb0
  have Hcall : Hid _ := hcall
  rw [← hn] at hl
  clear hI hR hO hN h3 h4 h5 ht hm f1 f2 f3 hn hI0 hNR hb0 hcall
  go_enter Try.func19, Try.ntmps19
  go_wp2_with fail
  refine q.mono ?_
  rintro y wy ⟨rfl, nq, hwy⟩
  have HIy : Hid (I 0 wy) := by rw [hwy]; exact HI0.out nq
  clear q hwy HI0
  go_wp2_with fail
  go_loopw [7] (fun x wr => ∃ kk : Nat, x = .int .i64 kk ∧ kk ≤ n ∧ Hid (I kk wr)) (fun x _ => n - (intOf x).toNat)
  case atStart => exact ⟨0, rfl, by omega, HIy⟩
  case round =>
    obtain ⟨kk, rfl, hk, HK⟩ := hrel
    have b0 := Hb0.out kk wr HK.out
    by_cases hlt : (kk : Int) < n
    · obtain ⟨x, q2, hyes, hno⟩ := Hcall.out kk wr HK.out (by omega)
      cases x with
      | true =>
        obtain ⟨ff, ⟨r, c4⟩, h1⟩ := hyes rfl
        have H1 : Hid _ := h1
        clear hyes hno h1
        go_wp2_with fail
        refine q2.mono ?_
        rintro y wy ⟨rfl, hwy⟩
        subst hwy
        clear q2
        go_wp2_with fail
        go_roundw
        case rel => exact ⟨kk + 1, by go_num, by omega, H1⟩
        case measure => simp [intOf]; omega
      | false =>
        have H1 : Hid _ := hno rfl
        clear hyes hno
        go_wp2_with fail
        refine q2.mono ?_
        rintro y wy ⟨rfl, hwy⟩
        subst hwy
        clear q2
        go_wp2_with fail
        go_roundw
        case rel => exact ⟨kk + 1, by go_num, by omega, H1⟩
        case measure => simp [intOf]; omega
    · have hkn : kk = n := by omega
      have HE : Hid _ := HFin.out wr (hkn ▸ HK.out)
      clear hkn
      go_wp2_with fail
      go_ret
      exact ⟨rfl, HE.out⟩
theorem rrelease_f (b : Nat) (m : Mg) (w : World) (F : Nat → Prop) (h : RF w b m F) (k : Int) :
    Calls Try.prog 19 #[.pointer (some ⟨b, 0, none⟩), .int .i64 k] w fun x w' => x = .returned (.int .i64 (endA m k)) ∧ RF w' b (endM m k 1) F ∧ Kept F w w' := by
  obtain ⟨L, ao, c, hR, hO, hN, h3, h4, h5⟩ := h.parts
  by_cases hk : ∃ t, ∃ i : Nat, fnd m.tx k = some (t, (i : Int))
  · obtain ⟨t, i, ht⟩ := hk
    obtain ⟨e1, e2⟩ := end_is ht 1
    rw [e1, e2]
    by_cases hm : may t i = true
    · rw [if_pos hm, if_pos hm]
      exact rrelease_ok b m w F L ao c hR hO hN h3 h4 h5 k t i ht hm
    · rw [if_neg hm, if_neg hm]
      obtain ⟨j, a, f1, f2, f3, -⟩ := hR.yes _ _ _ ht
      have q := rpart_some b ao c m L w hN hR k t i ht j f1
      rw [if_neg hm] at q
      have hfin : Hid (∀ nq, RF (w.drewN nq) b m F ∧ Kept F w (w.drewN nq)) := fun nq => ⟨h.no (drewN_tch w nq), kept_of (drewN_tch w nq)⟩
      clear h hR hO h3 h4 h5 hN ht e1 e2 f1 f2 f3 hm
      go_enter Try.func19, Try.ntmps19
      go_wp2_with fail
      refine q.mono ?_
      rintro y wy ⟨rfl, nq, hwy⟩
      have hfin' : Hid _ := hfin.out nq
      rw [← hwy] at hfin'
      clear q hfin hwy
      go_wp2_with fail
      go_ret
      exact ⟨rfl, hfin'.out⟩
  · have hk' : ∀ t (i : Nat), fnd m.tx k ≠ some (t, (i : Int)) := fun t i e => hk ⟨t, i, e⟩
    obtain ⟨e1, e2⟩ := end_no hk' 1
    rw [e1, e2]
    have q := rpart_none b ao c m L w hN hR k hk'
    have hfin : Hid (RF w b m F ∧ Kept F w w) := ⟨h, kept_refl _ _⟩
    clear h hR hO h3 h4 h5 hN hk hk' e1 e2
    go_enter Try.func19, Try.ntmps19
    go_wp2_with fail
    refine q.mono ?_
    rintro y wy ⟨rfl, hwy⟩
    subst hwy
    clear q
    go_wp2_with fail
    go_ret
    exact ⟨rfl, hfin.out⟩
end Go.Proofs.Ytolobljlkdacjaa
