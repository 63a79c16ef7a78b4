import Derived.Test.YtmaekkhmiafnmaaGreatDoorEP4
import Derived.Test.YtmaekkhmiafnmaaGreatDoorEFu
set_option maxHeartbeats 4000000
set_option maxRecDepth 100000
namespace Go.Proofs.YtmaekkhmiafnmaaGreatDoor
open Go.RowKit Go Go.Lib
variable {F : Nat → Prop}
theorem opIn_eq {c : Ct} {t : Tk} (h : mt c t) (ts : List Tk) : ∀ (l : List Nat), (∀ o ∈ l, askB (wd o) = true ∧ wd o ≠ ⟨#[]⟩) → l.find? (fun o => decide (c.b = wd o)) = opIn l (t :: ts)
  | [], _ => rfl
  | o :: l, hl => by
    have ih := opIn_eq h ts l (fun o ho => hl o (List.mem_cons_of_mem _ ho))
    obtain ⟨a1, a2⟩ := hl o (List.mem_cons_self ..)
    have e := mt_eq h a1 a2
    unfold opIn at ih ⊢
    by_cases hb : c.b = wd o
    · rw [List.find?_cons_of_pos (by simpa using hb), List.find?_cons_of_pos (by simpa [isT] using e.1 hb)]
    · rw [List.find?_cons_of_neg (by simpa using hb), List.find?_cons_of_neg (by simpa [isT] using fun h => hb (e.2 h))]
      exact ih
def RowI (F : Nat → Prop) (k n : Nat) (R : Rs) (pb : Nat) (w wr : World) (m b : Nat) : Prop :=
  ∃ e L ts, TR wr F e b ∧ PB wr pb L ∧ Cut L ts ∧ (∀ t ∈ ts, tkOk t) ∧ rd m (.more k [e]) ts = R ∧ m ≤ n ∧ Tch (fun i => i = pb) w wr
theorem opIn_ne {l : List Nat} {t : Tk} {ts : List Tk} {o : Nat} (h : opIn l (t :: ts) = some o) : o ∈ l ∧ t.b = wd o := by
  unfold opIn at h
  exact ⟨List.mem_of_find?_eq_some h, by simpa [isT] using List.find?_some h⟩
theorem row_or (n : Nat) (hI : ∀ m, m ≤ n → CL F 80 m 2) (pb : Nat) (L : List Ct) (ts : List Tk) (w : World) (gb go cp : Nat) (hc : Cut L ts) (hok : ∀ t ∈ ts, tkOk t) (hp : PB w pb L) (hx : HX F w pb)
    (hg : At w gb go (opsC (lineOps 1))) (hpg : pb ≠ gb) (hne : rd (n + 1) (.line 1) ts ≠ .out) :
    Calls Tryz.prog 79 #[.pointer (some ⟨pb, 0, none⟩), .func (.func 80) #[.pointer (some ⟨pb, 0, none⟩)] #[], .slice (some ⟨gb, go, none⟩) (lineOps 1).length cp] w fun x w' => ROut F pb (rd (n + 1) (.line 1) ts) x w' ∧ Tch (fun i => i = pb) w w' := by
  obtain ⟨R, hR⟩ : ∃ R, R = rd (n + 1) (.line 1) ts := ⟨_, rfl⟩
  have hR2 : R = (rd n (.line 2) ts).bind fun e r => rd n (.more 1 e) r := hR
  have q1 := hI n (Nat.le_refl _) pb L ts w hc hok hp hx (bind_out (by rw [← hR2, hR]; exact hne))
  rw [← hR] at hne ⊢
  have HI : Hid ((∀ m, m ≤ n → CL F 80 m 2) ∧ (∀ m nt ts l r, rd m nt ts = .ok l r → Sub r ts) ∧ (∀ t ∈ ts, tkOk t) ∧ HX F w pb ∧ At w gb go (opsC (lineOps 1)) ∧ R ≠ .out ∧ R = (rd n (.line 2) ts).bind fun e r => rd n (.more 1 e) r) := ⟨hI, fun m nt ts l r h => rd_sub m nt ts l r h, hok, hx, hg, hne, hR2⟩
  clear hI hok hx hg hne hR2 hR hc hp
  obtain ⟨ln, hln⟩ : ∃ ln, ln = (lineOps 1).length := ⟨_, rfl⟩
  rw [← hln]
  have Hln : Hid _ := hln
  clear hln
  go_enter Tryz.func79, Tryz.ntmps79
  go_wp2_with fail
  refine q1.mono ?_
  rintro y w1 ⟨hy, t1⟩
  clear q1
  rcases hy with ⟨e, r, b, L2, hR, rfl, h1, h2, h3⟩ | ⟨why, p, hR, rfl⟩
  · have HJ : Hid (RowI F 1 n R pb w w1 n b) := ⟨e, L2, r, h1, h2, h3, fun t ht => HI.out.2.2.1 t (HI.out.2.1 _ _ _ _ _ hR t ht), by rw [HI.out.2.2.2.2.2.2, hR]; rfl, Nat.le_refl _, t1⟩
    clear hR h1 h2 h3 t1
    go_wp2_with fail
    go_loopg [7] n (fun m ev wr => ∃ b, ev = .pointer (some ⟨b, 0, none⟩) ∧ Hid (RowI F 1 n R pb w wr m b))
    case atStart => exact ⟨b, rfl, HJ⟩
    case round =>
      obtain ⟨b2, rfl, HJ2⟩ := hrel
      obtain ⟨e2, L3, ts3, j1, j2, j3, j4, j5, j6, j7⟩ := HJ2.out
      obtain ⟨c, L', t, ts', rfl, rfl, hm, hc'⟩ := j3.ne
      obtain ⟨m', hgk⟩ : ∃ m', gk = m' + 1 := by
        cases gk with
        | zero => exact absurd j5.symm HI.out.2.2.2.2.2.1
        | succ m' => exact ⟨m', rfl⟩
      rw [hgk] at j5 j6
      have hops : ∀ o ∈ lineOps 1, o < 32 ∧ askB (wd o) = true ∧ wd o ≠ ⟨#[]⟩ := by decide
      have hx := HI.out.2.2.2.1.tch j7
      have q2 := takesOne_any pb c L' (lineOps 1) gb go cp wr j2 hx.shp (fun o ho => (hops o ho).1) (HI.out.2.2.2.2.1.tch j7 (fun _ e => hpg e.symm)) (fun e => by have := hx.far; omega) hpg (by decide)
      unfold TkOut at q2
      rw [opIn_eq hm ts' (lineOps 1) (fun o ho => (hops o ho).2), ← Hln.out] at q2
      have hj : R = match opIn (lineOps 1) (t :: ts') with
        | some o => (rd m' (.line 2) ts').bind fun b r => rd m' (.more 1 [heldE o ([e2] ++ b)]) r
        | none => .ok [e2] (t :: ts') := j5.symm
      cases ho : opIn (lineOps 1) (t :: ts') with
      | none =>
        rw [ho] at q2 hj
        simp only at q2 hj
        have HR : Hid (∀ w3, PB w3 pb (c :: L') → Tch (fun i => i = pb) wr w3 → ROut F pb R (.returned (.pointer (some ⟨b2, 0, none⟩))) w3 ∧ Tch (fun i => i = pb) w w3) := fun w3 p3 t3 => ⟨Or.inl ⟨e2, _, b2, _, hj, rfl, TR.tch t3 hx.tp j1, p3, j3⟩, j7.trans' t3⟩
        clear j1 j2 j3 j4 j5 j6 j7 hj ho hm hc' hops hx
        go_wp2_with fail
        refine q2.mono ?_
        rintro y w3 ⟨⟨rfl, p3⟩, t3⟩
        have HR3 : Hid _ := HR.out w3 p3 t3
        clear q2 p3 t3
        go_wp2_with fail
        go_ret
        exact HR3.out
      | some o =>
        obtain ⟨o1, o2⟩ := opIn_ne ho
        rw [ho] at q2 hj
        simp only at q2 hj
        have h3' := (j4 t (List.mem_cons_self ..)).lt (by rw [o2]; exact (hops o o1).2.2)
        have HK : Hid (Cut L' ts' ∧ (∀ t ∈ ts', tkOk t) ∧ TR wr F e2 b2 ∧ HX F wr pb ∧ m' ≤ n ∧ Tch (fun i => i = pb) w wr ∧ R = ((rd m' (.line 2) ts').bind fun b r => rd m' (.more 1 [heldE o ([e2] ++ b)]) r)) := ⟨hc' h3', fun t ht => j4 t (List.mem_cons_of_mem _ ht), j1, hx, by omega, j7, hj⟩
        clear j1 j2 j3 j4 j5 j6 j7 hj ho hm hc' hops hx o1 o2 h3'
        go_wp2_with fail
        refine q2.mono ?_
        rintro y w3 ⟨⟨rfl, p3⟩, t3⟩
        clear q2
        have q3 := HI.out.1 m' HK.out.2.2.2.2.1 pb L' ts' w3 HK.out.1 HK.out.2.1 p3 (HK.out.2.2.2.1.tch t3) (bind_out (by rw [← HK.out.2.2.2.2.2.2]; exact HI.out.2.2.2.2.2.1))
        have hpb : pb < w3.heap.size := p3.lt
        have Ht3 : Hid _ := t3
        clear p3 t3
        go_wp2_with fail
        refine q3.mono ?_
        rintro y w4 ⟨hy, t4⟩
        clear q3
        rcases hy with ⟨f, r, d, L4, hR, rfl, h1, h2, h3⟩ | ⟨why, p, hR, rfl⟩
        · have hF : ∀ i, F i → i < w4.heap.size := (HK.out.2.2.2.1.tch (Ht3.out.trans' t4)).fb
          have q4 := held_any F o [e2, f] (some ⟨w4.heap.size, 0, none⟩) 2 (w4.alloc (.cells #[.pointer (some ⟨b2, 0, none⟩), .pointer (some ⟨d, 0, none⟩)] 35)) (fun i hi => by have := hF i hi; simp; omega) (Nat.le_refl _) (LE.two (TR.tch (Ht3.out.trans' t4) HK.out.2.2.2.1.tp HK.out.2.2.1) h1 hF _)
          have HR : Hid (rd m' (.line 2) ts' = .ok [f] r ∧ PB w4 pb L4 ∧ Cut L4 r ∧ Tch (fun i => i = pb) wr w4) := ⟨hR, h2, h3, Ht3.out.trans' t4⟩
          clear hR h1 h2 h3 t4 hF
          go_wp2_with fail
          refine q4.mono ?_
          rintro y w5 ⟨⟨g, rfl, hd⟩, t5⟩
          clear q4
          have t6 : Tch (fun _ => False) w4 w5 := (Tch.alloc _ _ _).trans' t5
          have HJ5 : Hid (RowI F 1 n R pb w w5 m' g) := by
            obtain ⟨a1, a2, a3, a4⟩ := HR.out
            refine ⟨heldE o [e2, f], L4, r, hd, a2.no t6, a3, fun t ht => HK.out.2.1 t (HI.out.2.1 _ _ _ _ _ a1 t ht), ?_, HK.out.2.2.2.2.1, (HK.out.2.2.2.2.2.1.trans' a4).trans' (t6.mono (fun _ _ h => h.elim))⟩
            rw [HK.out.2.2.2.2.2.2, a1]; rfl
          clear hd t5 t6
          go_wp2_with fail
          go_roundg m'
          case measure => omega
          case rel => exact ⟨g, rfl, HJ5⟩
        · have HR : Hid (ROut F pb R (.panicked [{ v := refV why p, recovered := false }]) w4 ∧ Tch (fun i => i = pb) w w4) := ⟨Or.inr ⟨why, p, by rw [HK.out.2.2.2.2.2.2, hR]; rfl, rfl⟩, (HK.out.2.2.2.2.2.1.trans' Ht3.out).trans' t4⟩
          clear hR t4
          go_wp2_with fail
          exact ⟨rfl, HR.out⟩
  · have HR : Hid (ROut F pb R (.panicked [{ v := refV why p, recovered := false }]) w1 ∧ Tch (fun i => i = pb) w w1) := ⟨Or.inr ⟨why, p, by rw [HI.out.2.2.2.2.2.2, hR]; rfl, rfl⟩, t1⟩
    clear hR t1
    go_wp2_with fail
    exact ⟨rfl, HR.out⟩
theorem row_and (n : Nat) (hI : ∀ m, m ≤ n → CL F 124 m 3) (pb : Nat) (L : List Ct) (ts : List Tk) (w : World) (gb go cp : Nat) (hc : Cut L ts) (hok : ∀ t ∈ ts, tkOk t) (hp : PB w pb L) (hx : HX F w pb)
    (hg : At w gb go (opsC (lineOps 2))) (hpg : pb ≠ gb) (hne : rd (n + 1) (.line 2) ts ≠ .out) :
    Calls Tryz.prog 79 #[.pointer (some ⟨pb, 0, none⟩), .func (.func 124) #[.pointer (some ⟨pb, 0, none⟩)] #[], .slice (some ⟨gb, go, none⟩) (lineOps 2).length cp] w fun x w' => ROut F pb (rd (n + 1) (.line 2) ts) x w' ∧ Tch (fun i => i = pb) w w' := by
  obtain ⟨R, hR⟩ : ∃ R, R = rd (n + 1) (.line 2) ts := ⟨_, rfl⟩
  have hR2 : R = (rd n (.line 3) ts).bind fun e r => rd n (.more 2 e) r := hR
  have q1 := hI n (Nat.le_refl _) pb L ts w hc hok hp hx (bind_out (by rw [← hR2, hR]; exact hne))
  rw [← hR] at hne ⊢
  have HI : Hid ((∀ m, m ≤ n → CL F 124 m 3) ∧ (∀ m nt ts l r, rd m nt ts = .ok l r → Sub r ts) ∧ (∀ t ∈ ts, tkOk t) ∧ HX F w pb ∧ At w gb go (opsC (lineOps 2)) ∧ R ≠ .out ∧ R = (rd n (.line 3) ts).bind fun e r => rd n (.more 2 e) r) := ⟨hI, fun m nt ts l r h => rd_sub m nt ts l r h, hok, hx, hg, hne, hR2⟩
  clear hI hok hx hg hne hR2 hR hc hp
  obtain ⟨ln, hln⟩ : ∃ ln, ln = (lineOps 2).length := ⟨_, rfl⟩
  rw [← hln]
  have Hln : Hid _ := hln
  clear hln
  go_enter Tryz.func79, Tryz.ntmps79
  go_wp2_with fail
  refine q1.mono ?_
  rintro y w1 ⟨hy, t1⟩
  clear q1
  rcases hy with ⟨e, r, b, L2, hR, rfl, h1, h2, h3⟩ | ⟨why, p, hR, rfl⟩
  · have HJ : Hid (RowI F 2 n R pb w w1 n b) := ⟨e, L2, r, h1, h2, h3, fun t ht => HI.out.2.2.1 t (HI.out.2.1 _ _ _ _ _ hR t ht), by rw [HI.out.2.2.2.2.2.2, hR]; rfl, Nat.le_refl _, t1⟩
    clear hR h1 h2 h3 t1
    go_wp2_with fail
    go_loopg [7] n (fun m ev wr => ∃ b, ev = .pointer (some ⟨b, 0, none⟩) ∧ Hid (RowI F 2 n R pb w wr m b))
    case atStart => exact ⟨b, rfl, HJ⟩
    case round =>
      obtain ⟨b2, rfl, HJ2⟩ := hrel
      obtain ⟨e2, L3, ts3, j1, j2, j3, j4, j5, j6, j7⟩ := HJ2.out
      obtain ⟨c, L', t, ts', rfl, rfl, hm, hc'⟩ := j3.ne
      obtain ⟨m', hgk⟩ : ∃ m', gk = m' + 1 := by
        cases gk with
        | zero => exact absurd j5.symm HI.out.2.2.2.2.2.1
        | succ m' => exact ⟨m', rfl⟩
      rw [hgk] at j5 j6
      have hops : ∀ o ∈ lineOps 2, o < 32 ∧ askB (wd o) = true ∧ wd o ≠ ⟨#[]⟩ := by decide
      have hx := HI.out.2.2.2.1.tch j7
      have q2 := takesOne_any pb c L' (lineOps 2) gb go cp wr j2 hx.shp (fun o ho => (hops o ho).1) (HI.out.2.2.2.2.1.tch j7 (fun _ e => hpg e.symm)) (fun e => by have := hx.far; omega) hpg (by decide)
      unfold TkOut at q2
      rw [opIn_eq hm ts' (lineOps 2) (fun o ho => (hops o ho).2), ← Hln.out] at q2
      have hj : R = match opIn (lineOps 2) (t :: ts') with
        | some o => (rd m' (.line 3) ts').bind fun b r => rd m' (.more 2 [heldE o ([e2] ++ b)]) r
        | none => .ok [e2] (t :: ts') := j5.symm
      cases ho : opIn (lineOps 2) (t :: ts') with
      | none =>
        rw [ho] at q2 hj
        simp only at q2 hj
        have HR : Hid (∀ w3, PB w3 pb (c :: L') → Tch (fun i => i = pb) wr w3 → ROut F pb R (.returned (.pointer (some ⟨b2, 0, none⟩))) w3 ∧ Tch (fun i => i = pb) w w3) := fun w3 p3 t3 => ⟨Or.inl ⟨e2, _, b2, _, hj, rfl, TR.tch t3 hx.tp j1, p3, j3⟩, j7.trans' t3⟩
        clear j1 j2 j3 j4 j5 j6 j7 hj ho hm hc' hops hx
        go_wp2_with fail
        refine q2.mono ?_
        rintro y w3 ⟨⟨rfl, p3⟩, t3⟩
        have HR3 : Hid _ := HR.out w3 p3 t3
        clear q2 p3 t3
        go_wp2_with fail
        go_ret
        exact HR3.out
      | some o =>
        obtain ⟨o1, o2⟩ := opIn_ne ho
        rw [ho] at q2 hj
        simp only at q2 hj
        have h3' := (j4 t (List.mem_cons_self ..)).lt (by rw [o2]; exact (hops o o1).2.2)
        have HK : Hid (Cut L' ts' ∧ (∀ t ∈ ts', tkOk t) ∧ TR wr F e2 b2 ∧ HX F wr pb ∧ m' ≤ n ∧ Tch (fun i => i = pb) w wr ∧ R = ((rd m' (.line 3) ts').bind fun b r => rd m' (.more 2 [heldE o ([e2] ++ b)]) r)) := ⟨hc' h3', fun t ht => j4 t (List.mem_cons_of_mem _ ht), j1, hx, by omega, j7, hj⟩
        clear j1 j2 j3 j4 j5 j6 j7 hj ho hm hc' hops hx o1 o2 h3'
        go_wp2_with fail
        refine q2.mono ?_
        rintro y w3 ⟨⟨rfl, p3⟩, t3⟩
        clear q2
        have q3 := HI.out.1 m' HK.out.2.2.2.2.1 pb L' ts' w3 HK.out.1 HK.out.2.1 p3 (HK.out.2.2.2.1.tch t3) (bind_out (by rw [← HK.out.2.2.2.2.2.2]; exact HI.out.2.2.2.2.2.1))
        have hpb : pb < w3.heap.size := p3.lt
        have Ht3 : Hid _ := t3
        clear p3 t3
        go_wp2_with fail
        refine q3.mono ?_
        rintro y w4 ⟨hy, t4⟩
        clear q3
        rcases hy with ⟨f, r, d, L4, hR, rfl, h1, h2, h3⟩ | ⟨why, p, hR, rfl⟩
        · have hF : ∀ i, F i → i < w4.heap.size := (HK.out.2.2.2.1.tch (Ht3.out.trans' t4)).fb
          have q4 := held_any F o [e2, f] (some ⟨w4.heap.size, 0, none⟩) 2 (w4.alloc (.cells #[.pointer (some ⟨b2, 0, none⟩), .pointer (some ⟨d, 0, none⟩)] 35)) (fun i hi => by have := hF i hi; simp; omega) (Nat.le_refl _) (LE.two (TR.tch (Ht3.out.trans' t4) HK.out.2.2.2.1.tp HK.out.2.2.1) h1 hF _)
          have HR : Hid (rd m' (.line 3) ts' = .ok [f] r ∧ PB w4 pb L4 ∧ Cut L4 r ∧ Tch (fun i => i = pb) wr w4) := ⟨hR, h2, h3, Ht3.out.trans' t4⟩
          clear hR h1 h2 h3 t4 hF
          go_wp2_with fail
          refine q4.mono ?_
          rintro y w5 ⟨⟨g, rfl, hd⟩, t5⟩
          clear q4
          have t6 : Tch (fun _ => False) w4 w5 := (Tch.alloc _ _ _).trans' t5
          have HJ5 : Hid (RowI F 2 n R pb w w5 m' g) := by
            obtain ⟨a1, a2, a3, a4⟩ := HR.out
            refine ⟨heldE o [e2, f], L4, r, hd, a2.no t6, a3, fun t ht => HK.out.2.1 t (HI.out.2.1 _ _ _ _ _ a1 t ht), ?_, HK.out.2.2.2.2.1, (HK.out.2.2.2.2.2.1.trans' a4).trans' (t6.mono (fun _ _ h => h.elim))⟩
            rw [HK.out.2.2.2.2.2.2, a1]; rfl
          clear hd t5 t6
          go_wp2_with fail
          go_roundg m'
          case measure => omega
          case rel => exact ⟨g, rfl, HJ5⟩
        · have HR : Hid (ROut F pb R (.panicked [{ v := refV why p, recovered := false }]) w4 ∧ Tch (fun i => i = pb) w w4) := ⟨Or.inr ⟨why, p, by rw [HK.out.2.2.2.2.2.2, hR]; rfl, rfl⟩, (HK.out.2.2.2.2.2.1.trans' Ht3.out).trans' t4⟩
          clear hR t4
          go_wp2_with fail
          exact ⟨rfl, HR.out⟩
  · have HR : Hid (ROut F pb R (.panicked [{ v := refV why p, recovered := false }]) w1 ∧ Tch (fun i => i = pb) w w1) := ⟨Or.inr ⟨why, p, by rw [HI.out.2.2.2.2.2.2, hR]; rfl, rfl⟩, t1⟩
    clear hR t1
    go_wp2_with fail
    exact ⟨rfl, HR.out⟩
theorem row_join (n : Nat) (hI : ∀ m, m ≤ n → CL F 199 m 6) (pb : Nat) (L : List Ct) (ts : List Tk) (w : World) (gb go cp : Nat) (hc : Cut L ts) (hok : ∀ t ∈ ts, tkOk t) (hp : PB w pb L) (hx : HX F w pb)
    (hg : At w gb go (opsC (lineOps 5))) (hpg : pb ≠ gb) (hne : rd (n + 1) (.line 5) ts ≠ .out) :
    Calls Tryz.prog 79 #[.pointer (some ⟨pb, 0, none⟩), .func (.func 199) #[.pointer (some ⟨pb, 0, none⟩)] #[], .slice (some ⟨gb, go, none⟩) (lineOps 5).length cp] w fun x w' => ROut F pb (rd (n + 1) (.line 5) ts) x w' ∧ Tch (fun i => i = pb) w w' := by
  obtain ⟨R, hR⟩ : ∃ R, R = rd (n + 1) (.line 5) ts := ⟨_, rfl⟩
  have hR2 : R = (rd n (.line 6) ts).bind fun e r => rd n (.more 5 e) r := hR
  have q1 := hI n (Nat.le_refl _) pb L ts w hc hok hp hx (bind_out (by rw [← hR2, hR]; exact hne))
  rw [← hR] at hne ⊢
  have HI : Hid ((∀ m, m ≤ n → CL F 199 m 6) ∧ (∀ m nt ts l r, rd m nt ts = .ok l r → Sub r ts) ∧ (∀ t ∈ ts, tkOk t) ∧ HX F w pb ∧ At w gb go (opsC (lineOps 5)) ∧ R ≠ .out ∧ R = (rd n (.line 6) ts).bind fun e r => rd n (.more 5 e) r) := ⟨hI, fun m nt ts l r h => rd_sub m nt ts l r h, hok, hx, hg, hne, hR2⟩
  clear hI hok hx hg hne hR2 hR hc hp
  obtain ⟨ln, hln⟩ : ∃ ln, ln = (lineOps 5).length := ⟨_, rfl⟩
  rw [← hln]
  have Hln : Hid _ := hln
  clear hln
  go_enter Tryz.func79, Tryz.ntmps79
  go_wp2_with fail
  refine q1.mono ?_
  rintro y w1 ⟨hy, t1⟩
  clear q1
  rcases hy with ⟨e, r, b, L2, hR, rfl, h1, h2, h3⟩ | ⟨why, p, hR, rfl⟩
  · have HJ : Hid (RowI F 5 n R pb w w1 n b) := ⟨e, L2, r, h1, h2, h3, fun t ht => HI.out.2.2.1 t (HI.out.2.1 _ _ _ _ _ hR t ht), by rw [HI.out.2.2.2.2.2.2, hR]; rfl, Nat.le_refl _, t1⟩
    clear hR h1 h2 h3 t1
    go_wp2_with fail
    go_loopg [7] n (fun m ev wr => ∃ b, ev = .pointer (some ⟨b, 0, none⟩) ∧ Hid (RowI F 5 n R pb w wr m b))
    case atStart => exact ⟨b, rfl, HJ⟩
    case round =>
      obtain ⟨b2, rfl, HJ2⟩ := hrel
      obtain ⟨e2, L3, ts3, j1, j2, j3, j4, j5, j6, j7⟩ := HJ2.out
      obtain ⟨c, L', t, ts', rfl, rfl, hm, hc'⟩ := j3.ne
      obtain ⟨m', hgk⟩ : ∃ m', gk = m' + 1 := by
        cases gk with
        | zero => exact absurd j5.symm HI.out.2.2.2.2.2.1
        | succ m' => exact ⟨m', rfl⟩
      rw [hgk] at j5 j6
      have hops : ∀ o ∈ lineOps 5, o < 32 ∧ askB (wd o) = true ∧ wd o ≠ ⟨#[]⟩ := by decide
      have hx := HI.out.2.2.2.1.tch j7
      have q2 := takesOne_any pb c L' (lineOps 5) gb go cp wr j2 hx.shp (fun o ho => (hops o ho).1) (HI.out.2.2.2.2.1.tch j7 (fun _ e => hpg e.symm)) (fun e => by have := hx.far; omega) hpg (by decide)
      unfold TkOut at q2
      rw [opIn_eq hm ts' (lineOps 5) (fun o ho => (hops o ho).2), ← Hln.out] at q2
      have hj : R = match opIn (lineOps 5) (t :: ts') with
        | some o => (rd m' (.line 6) ts').bind fun b r => rd m' (.more 5 [heldE o ([e2] ++ b)]) r
        | none => .ok [e2] (t :: ts') := j5.symm
      cases ho : opIn (lineOps 5) (t :: ts') with
      | none =>
        rw [ho] at q2 hj
        simp only at q2 hj
        have HR : Hid (∀ w3, PB w3 pb (c :: L') → Tch (fun i => i = pb) wr w3 → ROut F pb R (.returned (.pointer (some ⟨b2, 0, none⟩))) w3 ∧ Tch (fun i => i = pb) w w3) := fun w3 p3 t3 => ⟨Or.inl ⟨e2, _, b2, _, hj, rfl, TR.tch t3 hx.tp j1, p3, j3⟩, j7.trans' t3⟩
        clear j1 j2 j3 j4 j5 j6 j7 hj ho hm hc' hops hx
        go_wp2_with fail
        refine q2.mono ?_
        rintro y w3 ⟨⟨rfl, p3⟩, t3⟩
        have HR3 : Hid _ := HR.out w3 p3 t3
        clear q2 p3 t3
        go_wp2_with fail
        go_ret
        exact HR3.out
      | some o =>
        obtain ⟨o1, o2⟩ := opIn_ne ho
        rw [ho] at q2 hj
        simp only at q2 hj
        have h3' := (j4 t (List.mem_cons_self ..)).lt (by rw [o2]; exact (hops o o1).2.2)
        have HK : Hid (Cut L' ts' ∧ (∀ t ∈ ts', tkOk t) ∧ TR wr F e2 b2 ∧ HX F wr pb ∧ m' ≤ n ∧ Tch (fun i => i = pb) w wr ∧ R = ((rd m' (.line 6) ts').bind fun b r => rd m' (.more 5 [heldE o ([e2] ++ b)]) r)) := ⟨hc' h3', fun t ht => j4 t (List.mem_cons_of_mem _ ht), j1, hx, by omega, j7, hj⟩
        clear j1 j2 j3 j4 j5 j6 j7 hj ho hm hc' hops hx o1 o2 h3'
        go_wp2_with fail
        refine q2.mono ?_
        rintro y w3 ⟨⟨rfl, p3⟩, t3⟩
        clear q2
        have q3 := HI.out.1 m' HK.out.2.2.2.2.1 pb L' ts' w3 HK.out.1 HK.out.2.1 p3 (HK.out.2.2.2.1.tch t3) (bind_out (by rw [← HK.out.2.2.2.2.2.2]; exact HI.out.2.2.2.2.2.1))
        have hpb : pb < w3.heap.size := p3.lt
        have Ht3 : Hid _ := t3
        clear p3 t3
        go_wp2_with fail
        refine q3.mono ?_
        rintro y w4 ⟨hy, t4⟩
        clear q3
        rcases hy with ⟨f, r, d, L4, hR, rfl, h1, h2, h3⟩ | ⟨why, p, hR, rfl⟩
        · have hF : ∀ i, F i → i < w4.heap.size := (HK.out.2.2.2.1.tch (Ht3.out.trans' t4)).fb
          have q4 := held_any F o [e2, f] (some ⟨w4.heap.size, 0, none⟩) 2 (w4.alloc (.cells #[.pointer (some ⟨b2, 0, none⟩), .pointer (some ⟨d, 0, none⟩)] 35)) (fun i hi => by have := hF i hi; simp; omega) (Nat.le_refl _) (LE.two (TR.tch (Ht3.out.trans' t4) HK.out.2.2.2.1.tp HK.out.2.2.1) h1 hF _)
          have HR : Hid (rd m' (.line 6) ts' = .ok [f] r ∧ PB w4 pb L4 ∧ Cut L4 r ∧ Tch (fun i => i = pb) wr w4) := ⟨hR, h2, h3, Ht3.out.trans' t4⟩
          clear hR h1 h2 h3 t4 hF
          go_wp2_with fail
          refine q4.mono ?_
          rintro y w5 ⟨⟨g, rfl, hd⟩, t5⟩
          clear q4
          have t6 : Tch (fun _ => False) w4 w5 := (Tch.alloc _ _ _).trans' t5
          have HJ5 : Hid (RowI F 5 n R pb w w5 m' g) := by
            obtain ⟨a1, a2, a3, a4⟩ := HR.out
            refine ⟨heldE o [e2, f], L4, r, hd, a2.no t6, a3, fun t ht => HK.out.2.1 t (HI.out.2.1 _ _ _ _ _ a1 t ht), ?_, HK.out.2.2.2.2.1, (HK.out.2.2.2.2.2.1.trans' a4).trans' (t6.mono (fun _ _ h => h.elim))⟩
            rw [HK.out.2.2.2.2.2.2, a1]; rfl
          clear hd t5 t6
          go_wp2_with fail
          go_roundg m'
          case measure => omega
          case rel => exact ⟨g, rfl, HJ5⟩
        · have HR : Hid (ROut F pb R (.panicked [{ v := refV why p, recovered := false }]) w4 ∧ Tch (fun i => i = pb) w w4) := ⟨Or.inr ⟨why, p, by rw [HK.out.2.2.2.2.2.2, hR]; rfl, rfl⟩, (HK.out.2.2.2.2.2.1.trans' Ht3.out).trans' t4⟩
          clear hR t4
          go_wp2_with fail
          exact ⟨rfl, HR.out⟩
  · have HR : Hid (ROut F pb R (.panicked [{ v := refV why p, recovered := false }]) w1 ∧ Tch (fun i => i = pb) w w1) := ⟨Or.inr ⟨why, p, by rw [HI.out.2.2.2.2.2.2, hR]; rfl, rfl⟩, t1⟩
    clear hR t1
    go_wp2_with fail
    exact ⟨rfl, HR.out⟩
theorem row_sum (n : Nat) (hI : ∀ m, m ≤ n → CL F 223 m 7) (pb : Nat) (L : List Ct) (ts : List Tk) (w : World) (gb go cp : Nat) (hc : Cut L ts) (hok : ∀ t ∈ ts, tkOk t) (hp : PB w pb L) (hx : HX F w pb)
    (hg : At w gb go (opsC (lineOps 6))) (hpg : pb ≠ gb) (hne : rd (n + 1) (.line 6) ts ≠ .out) :
    Calls Tryz.prog 79 #[.pointer (some ⟨pb, 0, none⟩), .func (.func 223) #[.pointer (some ⟨pb, 0, none⟩)] #[], .slice (some ⟨gb, go, none⟩) (lineOps 6).length cp] w fun x w' => ROut F pb (rd (n + 1) (.line 6) ts) x w' ∧ Tch (fun i => i = pb) w w' := by
  obtain ⟨R, hR⟩ : ∃ R, R = rd (n + 1) (.line 6) ts := ⟨_, rfl⟩
  have hR2 : R = (rd n (.line 7) ts).bind fun e r => rd n (.more 6 e) r := hR
  have q1 := hI n (Nat.le_refl _) pb L ts w hc hok hp hx (bind_out (by rw [← hR2, hR]; exact hne))
  rw [← hR] at hne ⊢
  have HI : Hid ((∀ m, m ≤ n → CL F 223 m 7) ∧ (∀ m nt ts l r, rd m nt ts = .ok l r → Sub r ts) ∧ (∀ t ∈ ts, tkOk t) ∧ HX F w pb ∧ At w gb go (opsC (lineOps 6)) ∧ R ≠ .out ∧ R = (rd n (.line 7) ts).bind fun e r => rd n (.more 6 e) r) := ⟨hI, fun m nt ts l r h => rd_sub m nt ts l r h, hok, hx, hg, hne, hR2⟩
  clear hI hok hx hg hne hR2 hR hc hp
  obtain ⟨ln, hln⟩ : ∃ ln, ln = (lineOps 6).length := ⟨_, rfl⟩
  rw [← hln]
  have Hln : Hid _ := hln
  clear hln
  go_enter Tryz.func79, Tryz.ntmps79
  go_wp2_with fail
  refine q1.mono ?_
  rintro y w1 ⟨hy, t1⟩
  clear q1
  rcases hy with ⟨e, r, b, L2, hR, rfl, h1, h2, h3⟩ | ⟨why, p, hR, rfl⟩
  · have HJ : Hid (RowI F 6 n R pb w w1 n b) := ⟨e, L2, r, h1, h2, h3, fun t ht => HI.out.2.2.1 t (HI.out.2.1 _ _ _ _ _ hR t ht), by rw [HI.out.2.2.2.2.2.2, hR]; rfl, Nat.le_refl _, t1⟩
    clear hR h1 h2 h3 t1
    go_wp2_with fail
    go_loopg [7] n (fun m ev wr => ∃ b, ev = .pointer (some ⟨b, 0, none⟩) ∧ Hid (RowI F 6 n R pb w wr m b))
    case atStart => exact ⟨b, rfl, HJ⟩
    case round =>
      obtain ⟨b2, rfl, HJ2⟩ := hrel
      obtain ⟨e2, L3, ts3, j1, j2, j3, j4, j5, j6, j7⟩ := HJ2.out
      obtain ⟨c, L', t, ts', rfl, rfl, hm, hc'⟩ := j3.ne
      obtain ⟨m', hgk⟩ : ∃ m', gk = m' + 1 := by
        cases gk with
        | zero => exact absurd j5.symm HI.out.2.2.2.2.2.1
        | succ m' => exact ⟨m', rfl⟩
      rw [hgk] at j5 j6
      have hops : ∀ o ∈ lineOps 6, o < 32 ∧ askB (wd o) = true ∧ wd o ≠ ⟨#[]⟩ := by decide
      have hx := HI.out.2.2.2.1.tch j7
      have q2 := takesOne_any pb c L' (lineOps 6) gb go cp wr j2 hx.shp (fun o ho => (hops o ho).1) (HI.out.2.2.2.2.1.tch j7 (fun _ e => hpg e.symm)) (fun e => by have := hx.far; omega) hpg (by decide)
      unfold TkOut at q2
      rw [opIn_eq hm ts' (lineOps 6) (fun o ho => (hops o ho).2), ← Hln.out] at q2
      have hj : R = match opIn (lineOps 6) (t :: ts') with
        | some o => (rd m' (.line 7) ts').bind fun b r => rd m' (.more 6 [heldE o ([e2] ++ b)]) r
        | none => .ok [e2] (t :: ts') := j5.symm
      cases ho : opIn (lineOps 6) (t :: ts') with
      | none =>
        rw [ho] at q2 hj
        simp only at q2 hj
        have HR : Hid (∀ w3, PB w3 pb (c :: L') → Tch (fun i => i = pb) wr w3 → ROut F pb R (.returned (.pointer (some ⟨b2, 0, none⟩))) w3 ∧ Tch (fun i => i = pb) w w3) := fun w3 p3 t3 => ⟨Or.inl ⟨e2, _, b2, _, hj, rfl, TR.tch t3 hx.tp j1, p3, j3⟩, j7.trans' t3⟩
        clear j1 j2 j3 j4 j5 j6 j7 hj ho hm hc' hops hx
        go_wp2_with fail
        refine q2.mono ?_
        rintro y w3 ⟨⟨rfl, p3⟩, t3⟩
        have HR3 : Hid _ := HR.out w3 p3 t3
        clear q2 p3 t3
        go_wp2_with fail
        go_ret
        exact HR3.out
      | some o =>
        obtain ⟨o1, o2⟩ := opIn_ne ho
        rw [ho] at q2 hj
        simp only at q2 hj
        have h3' := (j4 t (List.mem_cons_self ..)).lt (by rw [o2]; exact (hops o o1).2.2)
        have HK : Hid (Cut L' ts' ∧ (∀ t ∈ ts', tkOk t) ∧ TR wr F e2 b2 ∧ HX F wr pb ∧ m' ≤ n ∧ Tch (fun i => i = pb) w wr ∧ R = ((rd m' (.line 7) ts').bind fun b r => rd m' (.more 6 [heldE o ([e2] ++ b)]) r)) := ⟨hc' h3', fun t ht => j4 t (List.mem_cons_of_mem _ ht), j1, hx, by omega, j7, hj⟩
        clear j1 j2 j3 j4 j5 j6 j7 hj ho hm hc' hops hx o1 o2 h3'
        go_wp2_with fail
        refine q2.mono ?_
        rintro y w3 ⟨⟨rfl, p3⟩, t3⟩
        clear q2
        have q3 := HI.out.1 m' HK.out.2.2.2.2.1 pb L' ts' w3 HK.out.1 HK.out.2.1 p3 (HK.out.2.2.2.1.tch t3) (bind_out (by rw [← HK.out.2.2.2.2.2.2]; exact HI.out.2.2.2.2.2.1))
        have hpb : pb < w3.heap.size := p3.lt
        have Ht3 : Hid _ := t3
        clear p3 t3
        go_wp2_with fail
        refine q3.mono ?_
        rintro y w4 ⟨hy, t4⟩
        clear q3
        rcases hy with ⟨f, r, d, L4, hR, rfl, h1, h2, h3⟩ | ⟨why, p, hR, rfl⟩
        · have hF : ∀ i, F i → i < w4.heap.size := (HK.out.2.2.2.1.tch (Ht3.out.trans' t4)).fb
          have q4 := held_any F o [e2, f] (some ⟨w4.heap.size, 0, none⟩) 2 (w4.alloc (.cells #[.pointer (some ⟨b2, 0, none⟩), .pointer (some ⟨d, 0, none⟩)] 35)) (fun i hi => by have := hF i hi; simp; omega) (Nat.le_refl _) (LE.two (TR.tch (Ht3.out.trans' t4) HK.out.2.2.2.1.tp HK.out.2.2.1) h1 hF _)
          have HR : Hid (rd m' (.line 7) ts' = .ok [f] r ∧ PB w4 pb L4 ∧ Cut L4 r ∧ Tch (fun i => i = pb) wr w4) := ⟨hR, h2, h3, Ht3.out.trans' t4⟩
          clear hR h1 h2 h3 t4 hF
          go_wp2_with fail
          refine q4.mono ?_
          rintro y w5 ⟨⟨g, rfl, hd⟩, t5⟩
          clear q4
          have t6 : Tch (fun _ => False) w4 w5 := (Tch.alloc _ _ _).trans' t5
          have HJ5 : Hid (RowI F 6 n R pb w w5 m' g) := by
            obtain ⟨a1, a2, a3, a4⟩ := HR.out
            refine ⟨heldE o [e2, f], L4, r, hd, a2.no t6, a3, fun t ht => HK.out.2.1 t (HI.out.2.1 _ _ _ _ _ a1 t ht), ?_, HK.out.2.2.2.2.1, (HK.out.2.2.2.2.2.1.trans' a4).trans' (t6.mono (fun _ _ h => h.elim))⟩
            rw [HK.out.2.2.2.2.2.2, a1]; rfl
          clear hd t5 t6
          go_wp2_with fail
          go_roundg m'
          case measure => omega
          case rel => exact ⟨g, rfl, HJ5⟩
        · have HR : Hid (ROut F pb R (.panicked [{ v := refV why p, recovered := false }]) w4 ∧ Tch (fun i => i = pb) w w4) := ⟨Or.inr ⟨why, p, by rw [HK.out.2.2.2.2.2.2, hR]; rfl, rfl⟩, (HK.out.2.2.2.2.2.1.trans' Ht3.out).trans' t4⟩
          clear hR t4
          go_wp2_with fail
          exact ⟨rfl, HR.out⟩
  · have HR : Hid (ROut F pb R (.panicked [{ v := refV why p, recovered := false }]) w1 ∧ Tch (fun i => i = pb) w w1) := ⟨Or.inr ⟨why, p, by rw [HI.out.2.2.2.2.2.2, hR]; rfl, rfl⟩, t1⟩
    clear hR t1
    go_wp2_with fail
    exact ⟨rfl, HR.out⟩
theorem row_product (n : Nat) (hI : ∀ m, m ≤ n → CL F 234 m 8) (pb : Nat) (L : List Ct) (ts : List Tk) (w : World) (gb go cp : Nat) (hc : Cut L ts) (hok : ∀ t ∈ ts, tkOk t) (hp : PB w pb L) (hx : HX F w pb)
    (hg : At w gb go (opsC (lineOps 7))) (hpg : pb ≠ gb) (hne : rd (n + 1) (.line 7) ts ≠ .out) :
    Calls Tryz.prog 79 #[.pointer (some ⟨pb, 0, none⟩), .func (.func 234) #[.pointer (some ⟨pb, 0, none⟩)] #[], .slice (some ⟨gb, go, none⟩) (lineOps 7).length cp] w fun x w' => ROut F pb (rd (n + 1) (.line 7) ts) x w' ∧ Tch (fun i => i = pb) w w' := by
  obtain ⟨R, hR⟩ : ∃ R, R = rd (n + 1) (.line 7) ts := ⟨_, rfl⟩
  have hR2 : R = (rd n (.line 8) ts).bind fun e r => rd n (.more 7 e) r := hR
  have q1 := hI n (Nat.le_refl _) pb L ts w hc hok hp hx (bind_out (by rw [← hR2, hR]; exact hne))
  rw [← hR] at hne ⊢
  have HI : Hid ((∀ m, m ≤ n → CL F 234 m 8) ∧ (∀ m nt ts l r, rd m nt ts = .ok l r → Sub r ts) ∧ (∀ t ∈ ts, tkOk t) ∧ HX F w pb ∧ At w gb go (opsC (lineOps 7)) ∧ R ≠ .out ∧ R = (rd n (.line 8) ts).bind fun e r => rd n (.more 7 e) r) := ⟨hI, fun m nt ts l r h => rd_sub m nt ts l r h, hok, hx, hg, hne, hR2⟩
  clear hI hok hx hg hne hR2 hR hc hp
  obtain ⟨ln, hln⟩ : ∃ ln, ln = (lineOps 7).length := ⟨_, rfl⟩
  rw [← hln]
  have Hln : Hid _ := hln
  clear hln
  go_enter Tryz.func79, Tryz.ntmps79
  go_wp2_with fail
  refine q1.mono ?_
  rintro y w1 ⟨hy, t1⟩
  clear q1
  rcases hy with ⟨e, r, b, L2, hR, rfl, h1, h2, h3⟩ | ⟨why, p, hR, rfl⟩
  · have HJ : Hid (RowI F 7 n R pb w w1 n b) := ⟨e, L2, r, h1, h2, h3, fun t ht => HI.out.2.2.1 t (HI.out.2.1 _ _ _ _ _ hR t ht), by rw [HI.out.2.2.2.2.2.2, hR]; rfl, Nat.le_refl _, t1⟩
    clear hR h1 h2 h3 t1
    go_wp2_with fail
    go_loopg [7] n (fun m ev wr => ∃ b, ev = .pointer (some ⟨b, 0, none⟩) ∧ Hid (RowI F 7 n R pb w wr m b))
    case atStart => exact ⟨b, rfl, HJ⟩
    case round =>
      obtain ⟨b2, rfl, HJ2⟩ := hrel
      obtain ⟨e2, L3, ts3, j1, j2, j3, j4, j5, j6, j7⟩ := HJ2.out
      obtain ⟨c, L', t, ts', rfl, rfl, hm, hc'⟩ := j3.ne
      obtain ⟨m', hgk⟩ : ∃ m', gk = m' + 1 := by
        cases gk with
        | zero => exact absurd j5.symm HI.out.2.2.2.2.2.1
        | succ m' => exact ⟨m', rfl⟩
      rw [hgk] at j5 j6
      have hops : ∀ o ∈ lineOps 7, o < 32 ∧ askB (wd o) = true ∧ wd o ≠ ⟨#[]⟩ := by decide
      have hx := HI.out.2.2.2.1.tch j7
      have q2 := takesOne_any pb c L' (lineOps 7) gb go cp wr j2 hx.shp (fun o ho => (hops o ho).1) (HI.out.2.2.2.2.1.tch j7 (fun _ e => hpg e.symm)) (fun e => by have := hx.far; omega) hpg (by decide)
      unfold TkOut at q2
      rw [opIn_eq hm ts' (lineOps 7) (fun o ho => (hops o ho).2), ← Hln.out] at q2
      have hj : R = match opIn (lineOps 7) (t :: ts') with
        | some o => (rd m' (.line 8) ts').bind fun b r => rd m' (.more 7 [heldE o ([e2] ++ b)]) r
        | none => .ok [e2] (t :: ts') := j5.symm
      cases ho : opIn (lineOps 7) (t :: ts') with
      | none =>
        rw [ho] at q2 hj
        simp only at q2 hj
        have HR : Hid (∀ w3, PB w3 pb (c :: L') → Tch (fun i => i = pb) wr w3 → ROut F pb R (.returned (.pointer (some ⟨b2, 0, none⟩))) w3 ∧ Tch (fun i => i = pb) w w3) := fun w3 p3 t3 => ⟨Or.inl ⟨e2, _, b2, _, hj, rfl, TR.tch t3 hx.tp j1, p3, j3⟩, j7.trans' t3⟩
        clear j1 j2 j3 j4 j5 j6 j7 hj ho hm hc' hops hx
        go_wp2_with fail
        refine q2.mono ?_
        rintro y w3 ⟨⟨rfl, p3⟩, t3⟩
        have HR3 : Hid _ := HR.out w3 p3 t3
        clear q2 p3 t3
        go_wp2_with fail
        go_ret
        exact HR3.out
      | some o =>
        obtain ⟨o1, o2⟩ := opIn_ne ho
        rw [ho] at q2 hj
        simp only at q2 hj
        have h3' := (j4 t (List.mem_cons_self ..)).lt (by rw [o2]; exact (hops o o1).2.2)
        have HK : Hid (Cut L' ts' ∧ (∀ t ∈ ts', tkOk t) ∧ TR wr F e2 b2 ∧ HX F wr pb ∧ m' ≤ n ∧ Tch (fun i => i = pb) w wr ∧ R = ((rd m' (.line 8) ts').bind fun b r => rd m' (.more 7 [heldE o ([e2] ++ b)]) r)) := ⟨hc' h3', fun t ht => j4 t (List.mem_cons_of_mem _ ht), j1, hx, by omega, j7, hj⟩
        clear j1 j2 j3 j4 j5 j6 j7 hj ho hm hc' hops hx o1 o2 h3'
        go_wp2_with fail
        refine q2.mono ?_
        rintro y w3 ⟨⟨rfl, p3⟩, t3⟩
        clear q2
        have q3 := HI.out.1 m' HK.out.2.2.2.2.1 pb L' ts' w3 HK.out.1 HK.out.2.1 p3 (HK.out.2.2.2.1.tch t3) (bind_out (by rw [← HK.out.2.2.2.2.2.2]; exact HI.out.2.2.2.2.2.1))
        have hpb : pb < w3.heap.size := p3.lt
        have Ht3 : Hid _ := t3
        clear p3 t3
        go_wp2_with fail
        refine q3.mono ?_
        rintro y w4 ⟨hy, t4⟩
        clear q3
        rcases hy with ⟨f, r, d, L4, hR, rfl, h1, h2, h3⟩ | ⟨why, p, hR, rfl⟩
        · have hF : ∀ i, F i → i < w4.heap.size := (HK.out.2.2.2.1.tch (Ht3.out.trans' t4)).fb
          have q4 := held_any F o [e2, f] (some ⟨w4.heap.size, 0, none⟩) 2 (w4.alloc (.cells #[.pointer (some ⟨b2, 0, none⟩), .pointer (some ⟨d, 0, none⟩)] 35)) (fun i hi => by have := hF i hi; simp; omega) (Nat.le_refl _) (LE.two (TR.tch (Ht3.out.trans' t4) HK.out.2.2.2.1.tp HK.out.2.2.1) h1 hF _)
          have HR : Hid (rd m' (.line 8) ts' = .ok [f] r ∧ PB w4 pb L4 ∧ Cut L4 r ∧ Tch (fun i => i = pb) wr w4) := ⟨hR, h2, h3, Ht3.out.trans' t4⟩
          clear hR h1 h2 h3 t4 hF
          go_wp2_with fail
          refine q4.mono ?_
          rintro y w5 ⟨⟨g, rfl, hd⟩, t5⟩
          clear q4
          have t6 : Tch (fun _ => False) w4 w5 := (Tch.alloc _ _ _).trans' t5
          have HJ5 : Hid (RowI F 7 n R pb w w5 m' g) := by
            obtain ⟨a1, a2, a3, a4⟩ := HR.out
            refine ⟨heldE o [e2, f], L4, r, hd, a2.no t6, a3, fun t ht => HK.out.2.1 t (HI.out.2.1 _ _ _ _ _ a1 t ht), ?_, HK.out.2.2.2.2.1, (HK.out.2.2.2.2.2.1.trans' a4).trans' (t6.mono (fun _ _ h => h.elim))⟩
            rw [HK.out.2.2.2.2.2.2, a1]; rfl
          clear hd t5 t6
          go_wp2_with fail
          go_roundg m'
          case measure => omega
          case rel => exact ⟨g, rfl, HJ5⟩
        · have HR : Hid (ROut F pb R (.panicked [{ v := refV why p, recovered := false }]) w4 ∧ Tch (fun i => i = pb) w w4) := ⟨Or.inr ⟨why, p, by rw [HK.out.2.2.2.2.2.2, hR]; rfl, rfl⟩, (HK.out.2.2.2.2.2.1.trans' Ht3.out).trans' t4⟩
          clear hR t4
          go_wp2_with fail
          exact ⟨rfl, HR.out⟩
  · have HR : Hid (ROut F pb R (.panicked [{ v := refV why p, recovered := false }]) w1 ∧ Tch (fun i => i = pb) w w1) := ⟨Or.inr ⟨why, p, by rw [HI.out.2.2.2.2.2.2, hR]; rfl, rfl⟩, t1⟩
    clear hR t1
    go_wp2_with fail
    exact ⟨rfl, HR.out⟩
end Go.Proofs.YtmaekkhmiafnmaaGreatDoor
