import Derived.Test.YtmaekkhmiafnmaaGreatDoorEP7
import Derived.Test.YtmaekkhmiafnmaaGreatDoorEP10
set_option maxHeartbeats 4000000
set_option maxRecDepth 100000
namespace Go.Proofs.YtmaekkhmiafnmaaGreatDoor
open Go.RowKit Go Go.Lib
variable {F : Nat → Prop}
def elseR (m : Nat) (acc : List Ex) (ts : List Tk) : Rs := if isT ts wElse = true then (rd m (.line 1) ts.tail).bind fun c r3 => wantT r3 wEnd fun r4 => .ok [heldE 22 (acc ++ c)] r4 else wantT ts wEnd fun r3 => .ok [heldE 22 acc] r3
def wK4 (m : Nat) (acc : List Ex) (r : List Tk) : Rs := if isT r wWhen = true then rd m (.whens acc) r.tail else elseR m acc r
def wK2 (m : Nat) (acc : List Ex) (r : List Tk) : Rs := (rd m (.line 1) r).bind fun b r2 => wK4 m (acc ++ b) r2
theorem rd_whens (m : Nat) (acc : List Ex) (ts : List Tk) : rd (m + 1) (.whens acc) ts = (rd m (.line 1) ts).bind fun a r => wantT r wThen fun r1 => wK2 m (acc ++ a) r1 := rfl
structure WS (F : Nat → Prop) (pb : Nat) (w wr : World) (ao : Option Addr) (k c : Nat) (acc : List Ex) (L : List Ct) (ts : List Tk) : Prop where
  len : acc.length = k
  pr : PR wr F w.heap.size ao c acc
  par : PB wr pb L
  cut : Cut L ts
  ok : ∀ t ∈ ts, tkOk t
  tch : Tch (fun i => i = pb) w wr
theorem WS.go {pb : Nat} {w wr w3 : World} {ao : Option Addr} {k c : Nat} {acc : List Ex} {L L3 : List Ct} {ts ts3 : List Tk} (h : WS F pb w wr ao k c acc L ts) (hx : HX F w pb) (t : Tch (fun i => i = pb) wr w3) (p : PB w3 pb L3) (hc : Cut L3 ts3) (hs : Sub ts3 ts) : WS F pb w w3 ao k c acc L3 ts3 :=
  ⟨h.len, h.pr.tch t hx.tp, p, hc, fun t ht => h.ok t (hs t ht), h.tch.trans' t⟩
theorem WS.hx {pb : Nat} {w wr : World} {ao : Option Addr} {k c : Nat} {acc : List Ex} {L : List Ct} {ts : List Tk} (h : WS F pb w wr ao k c acc L ts) (hx : HX F w pb) : HX (noB F ao k c) wr pb := by
  have := h.pr.hx h.tch.size (hx.tch h.tch)
  rw [h.len] at this
  exact this
theorem WS.app {pb : Nat} {w w4 : World} {ao : Option Addr} {k c : Nat} {acc : List Ex} {L : List Ct} {ts : List Tk} {e : Ex} {b : Nat} (h : WS F pb w w4 ao k c acc L ts) (hx : HX F w pb) (hk : k ≤ 1000000000) (he : TR w4 (noB F ao k c) e b) :
    ∃ o c' w', (Builtin.append_ #[65, 65] 65 #[.slice ao k c, .slice (some ⟨w4.heap.size, 0, none⟩) 1 1]).run Tryz.prog (w4.alloc (.cells #[ptV b] 35)) = .ok (.slice o ((k + 1 : Nat)) c') w' ∧ WS F pb w w' o (k + 1) c' (acc ++ [e]) L ts := by
  obtain ⟨o7, c7, w7, hr7, hp7, hl7, t7⟩ := LsI.app h.len h.pr h.tch.size hk he
  have hpb : pb < w.heap.size := hx.fb pb hx.fp
  exact ⟨o7, c7, w7, hr7, hl7, hp7, h.par.far t7 (fun i hi => by omega), h.cut, h.ok, h.tch.trans t7 (fun i hi h => by omega)⟩
theorem WS.le {pb : Nat} {w wr : World} {ao : Option Addr} {k c : Nat} {acc : List Ex} {L : List Ct} {ts : List Tk} (h : WS F pb w wr ao k c acc L ts) : LE wr F acc ao ∧ k ≤ c := ⟨h.pr.le, by rw [← h.len]; exact h.pr.cap⟩
def WsI (F : Nat → Prop) (n : Nat) (R : Rs) (pb : Nat) (w wr : World) (m : Nat) (ao : Option Addr) (k c : Nat) (g : Bool) : Prop :=
  ∃ acc L ts, WS F pb w wr ao k c acc L ts ∧ (if g = true then rd m (.whens acc) ts else elseR m acc ts) = R ∧ 2 * m + k ≤ 2 * n
theorem want_bind {ts : List Tk} {a : ByteArray} {f : List Tk → Rs} {t : Tk} {r : List Tk} (h : ts = t :: r) : wantT ts a f = if t.b = a then f r else .no 110 t.p := by
  subst h
  show (if isT (t :: r) a = true then f r else .no 110 t.p) = _
  rw [isT_cons]
  by_cases h : t.b = a
  · rw [if_pos (by simpa using h), if_pos h]
  · rw [if_neg (by simpa using h), if_neg h]
theorem Sub.cons (t : Tk) (ts : List Tk) : Sub ts (t :: ts) := fun _ h => List.mem_cons_of_mem _ h
theorem choice_any (n : Nat) (hn : n ≤ 1000000) (hI : ∀ (G : Nat → Prop) m, m ≤ n → CL G 49 m 1) : CCh F 248 n := by
  intro pb L ts w hc hok hp hx hne
  obtain ⟨R, hR⟩ : ∃ R, R = (wantT ts wWhen fun r1 => rd n (.whens []) r1) := ⟨_, rfl⟩
  rw [← hR] at hne ⊢
  have HI : Hid ((∀ (G : Nat → Prop) m, m ≤ n → CL G 49 m 1) ∧ (∀ m nt ts l r, rd m nt ts = .ok l r → Sub r ts) ∧ HX F w pb ∧ R ≠ .out) := ⟨hI, fun m nt ts l r h => rd_sub m nt ts l r h, hx, hne⟩
  have H0 : Hid (WS F pb w w none 0 0 [] L ts) := ⟨rfl, PR.nil (fun i hi => hx.fb i hi), hp, hc, hok, Tch.refl _ _⟩
  have HR0 : Hid _ := hR
  clear hI hx hne hR hc hp hok
  obtain ⟨c1, L1, t1, ts1, hL1, hts1, hm1, hc1⟩ := H0.out.cut.ne
  have hp1 := H0.out.par
  rw [hL1] at hp1
  have q1 := want_any pb c1 L1 wWhen _ hp1
  have hk1 := mt_eq hm1 (a := wWhen) (by decide) (by decide)
  have hok1 := H0.out.ok t1 (by rw [hts1]; exact List.mem_cons_self ..)
  have hR1 := HR0.out.trans (want_bind hts1)
  have hsub1 := Sub.cons t1 ts1
  rw [← hts1] at hsub1
  by_cases hs1 : c1.b = wWhen
  rotate_left
  · simp only [if_neg hs1] at q1
    rw [if_neg (fun h => hs1 (hk1.2 h))] at hR1
    have HE : Hid (c1.p = t1.p ∧ R = .no 110 t1.p) := ⟨hm1.1, hR1⟩
    clear hL1 hts1 hm1 hc1 hp1 hk1 hok1 hR1 hsub1 hs1
    go_enter Tryz.func248, Tryz.ntmps248
    go_wp2_with fail
    refine q1.mono ?_
    rintro y wx ⟨rfl, tx⟩
    clear q1
    have HRx : Hid (ROut F pb R (.panicked [{ v := refV 110 c1.p, recovered := false }]) wx ∧ Tch (fun i => i = pb) w wx) := ⟨Or.inr ⟨110, t1.p, HE.out.2, by rw [HE.out.1]⟩, H0.out.tch.trans' tx⟩
    clear tx
    go_wp2_with fail
    exact ⟨rfl, HRx.out⟩
  simp only [if_pos hs1] at q1
  rw [if_pos (hk1.1 hs1)] at hR1
  have HR1 : Hid _ := hR1
  have HC1 : Hid (Cut L1 ts1 ∧ Sub ts1 _) := ⟨hc1 (hok1.lt (by rw [hk1.1 hs1]; decide)), hsub1⟩
  clear hL1 hts1 hm1 hc1 hp1 hk1 hok1 hR1 hsub1 hs1
  go_enter Tryz.func248, Tryz.ntmps248
  go_wp2_with fail
  refine q1.mono ?_
  rintro y w1 ⟨⟨rfl, p1⟩, u1⟩
  clear q1
  have H1 : Hid _ := H0.out.go HI.out.2.2.1 u1 p1 HC1.out.1 HC1.out.2
  clear p1 u1
  have HJ : Hid (WsI F n R pb w w1 n none 0 0 true) := ⟨[], L1, ts1, H1.out, HR1.out.symm, by omega⟩
  clear H1 HR1 HC1
  go_wp2_with fail
  go_loopg [3, 4] n (fun m lv gv wr => ∃ (ao : Option Addr) (k c : Nat) (g : Bool), lv = .slice ao k c ∧ gv = .bool g ∧ Hid (WsI F n R pb w wr m ao k c g))
  case atStart => exact ⟨none, 0, 0, true, rfl, rfl, HJ⟩
  case round =>
    obtain ⟨ao, k, c, g, rfl, rfl, HJ2⟩ := hrel
    obtain ⟨acc, L2, ts2, j1, j2, j3⟩ := HJ2.out
    have H2 : Hid _ := j1
    cases g with
    | true =>
      obtain ⟨m', hgk⟩ : ∃ m', gk = m' + 1 := by
        cases gk with
        | zero => exact absurd j2.symm HI.out.2.2.2
        | succ m' => exact ⟨m', rfl⟩
      have hkb : 2 * m' + k + 2 ≤ 2 * n := by omega
      have HR2 : Hid (R = (rd m' (.line 1) ts2).bind fun a r => wantT r wThen fun r1 => wK2 m' (acc ++ a) r1) := (show R = _ from by rw [← rd_whens, ← hgk]; exact j2.symm)
      clear j1 j2 j3
      have q3 := HI.out.1 (noB F ao (k) c) m' (by omega) pb L2 ts2 wr H2.out.cut H2.out.ok H2.out.par (H2.out.hx HI.out.2.2.1) (bind_out (by rw [← HR2.out]; exact HI.out.2.2.2))
      go_wp2_with fail
      refine q3.mono ?_
      rintro y w3 ⟨hy, u3⟩
      clear q3
      obtain ⟨e3, r3, b3, L3, hE3, rfl, h1, h2, h3⟩ | ⟨why, p, hE, rfl⟩ := hy
      rotate_left
      · have HRx : Hid (ROut F pb R (.panicked [{ v := refV why p, recovered := false }]) w3 ∧ Tch (fun i => i = pb) w w3) := ⟨Or.inr ⟨why, p, by rw [HR2.out, hE]; rfl, rfl⟩, H2.out.tch.trans' u3⟩
        clear hE u3
        go_wp2_with fail
        exact ⟨rfl, HRx.out⟩
      obtain ⟨o3, k3, v3, hr3, hw3⟩ := (H2.out.go HI.out.2.2.1 u3 h2 h3 (HI.out.2.1 _ _ _ _ _ hE3)).app HI.out.2.2.1 (by omega) h1
      have H3 : Hid _ := hw3
      have hR3 := HR2.out
      rw [hE3] at hR3
      have HR3 : Hid (R = wantT r3 wThen fun r1 => wK2 m' (acc ++ [e3]) r1) := hR3
      clear hE3 h1 h2 h3 u3 hw3 hR3
      go_wp2_with (at_builtin; refine wpList_app _ rfl _ _ 65 rfl rfl _ _ rfl rfl hr3 ?_)
      clear hr3
      obtain ⟨c4, L4, t4, ts4, hL4, hts4, hm4, hc4⟩ := H3.out.cut.ne
      have hp4 := H3.out.par
      rw [hL4] at hp4
      have q4 := want_any pb c4 L4 wThen _ hp4
      have hk4 := mt_eq hm4 (a := wThen) (by decide) (by decide)
      have hok4 := H3.out.ok t4 (by rw [hts4]; exact List.mem_cons_self ..)
      have hR4 := HR3.out.trans (want_bind hts4)
      have hsub4 := Sub.cons t4 ts4
      rw [← hts4] at hsub4
      by_cases hs4 : c4.b = wThen
      rotate_left
      · simp only [if_neg hs4] at q4
        rw [if_neg (fun h => hs4 (hk4.2 h))] at hR4
        have HE : Hid (c4.p = t4.p ∧ R = .no 110 t4.p) := ⟨hm4.1, hR4⟩
        clear hL4 hts4 hm4 hc4 hp4 hk4 hok4 hR4 hsub4 hs4
        go_wp2_with fail
        refine q4.mono ?_
        rintro y wx ⟨rfl, tx⟩
        clear q4
        have HRx : Hid (ROut F pb R (.panicked [{ v := refV 110 c4.p, recovered := false }]) wx ∧ Tch (fun i => i = pb) w wx) := ⟨Or.inr ⟨110, t4.p, HE.out.2, by rw [HE.out.1]⟩, H3.out.tch.trans' tx⟩
        clear tx
        go_wp2_with fail
        exact ⟨rfl, HRx.out⟩
      simp only [if_pos hs4] at q4
      rw [if_pos (hk4.1 hs4)] at hR4
      have HR4 : Hid _ := hR4
      have HC4 : Hid (Cut L4 ts4 ∧ Sub ts4 _) := ⟨hc4 (hok4.lt (by rw [hk4.1 hs4]; decide)), hsub4⟩
      clear hL4 hts4 hm4 hc4 hp4 hk4 hok4 hR4 hsub4 hs4
      go_wp2_with fail
      refine q4.mono ?_
      rintro y w4 ⟨⟨rfl, p4⟩, u4⟩
      clear q4
      have H4 : Hid _ := H3.out.go HI.out.2.2.1 u4 p4 HC4.out.1 HC4.out.2
      clear p4 u4
      have HR4' : Hid (R = (rd m' (.line 1) ts4).bind fun b r2 => wK4 m' ((acc ++ [e3]) ++ b) r2) := HR4.out
      have q5 := HI.out.1 (noB F o3 (k + 1) k3) m' (by omega) pb L4 ts4 w4 H4.out.cut H4.out.ok H4.out.par (H4.out.hx HI.out.2.2.1) (bind_out (by rw [← HR4'.out]; exact HI.out.2.2.2))
      go_wp2_with fail
      refine q5.mono ?_
      rintro y w5 ⟨hy, u5⟩
      clear q5
      obtain ⟨e5, r5, b5, L5, hE5, rfl, h1, h2, h3⟩ | ⟨why, p, hE, rfl⟩ := hy
      rotate_left
      · have HRx : Hid (ROut F pb R (.panicked [{ v := refV why p, recovered := false }]) w5 ∧ Tch (fun i => i = pb) w w5) := ⟨Or.inr ⟨why, p, by rw [HR4'.out, hE]; rfl, rfl⟩, H4.out.tch.trans' u5⟩
        clear hE u5
        go_wp2_with fail
        exact ⟨rfl, HRx.out⟩
      obtain ⟨o5, k5, v5, hr5, hw5⟩ := (H4.out.go HI.out.2.2.1 u5 h2 h3 (HI.out.2.1 _ _ _ _ _ hE5)).app HI.out.2.2.1 (by omega) h1
      have H5 : Hid _ := hw5
      have hR5 := HR4'.out
      rw [hE5] at hR5
      have HR5 : Hid (R = wK4 m' (acc ++ [e3] ++ [e5]) r5) := hR5
      clear hE5 h1 h2 h3 u5 hw5 hR5
      go_wp2_with (at_builtin; refine wpList_app _ rfl _ _ 65 rfl rfl _ _ rfl rfl hr5 ?_)
      clear hr5
      obtain ⟨c6, L6, t6, ts6, hL6, hts6, hm6, hc6⟩ := H5.out.cut.ne
      have hp6 := H5.out.par
      rw [hL6] at hp6
      have q6 := takes_any pb c6 L6 wWhen _ hp6
      have hk6 := mt_eq hm6 (a := wWhen) (by decide) (by decide)
      have hok6 := H5.out.ok t6 (by rw [hts6]; exact List.mem_cons_self ..)
      have hR6 := HR5.out
      rw [wK4, hts6, isT_cons] at hR6
      have hsub6 := Sub.cons t6 ts6
      rw [← hts6] at hsub6
      by_cases hs6 : c6.b = wWhen
      · rw [decide_eq_true hs6] at q6
        simp only [if_pos hs6] at q6
        rw [if_pos (by simpa using hk6.1 hs6)] at hR6
        have HR6 : Hid (R = rd m' (.whens (acc ++ [e3] ++ [e5])) ts6) := hR6
        have HC6 : Hid (Cut L6 ts6 ∧ Sub ts6 r5) := ⟨hc6 (hok6.lt (by rw [hk6.1 hs6]; decide)), hsub6⟩
        clear hL6 hts6 hm6 hc6 hp6 hk6 hok6 hR6 hsub6 hs6
        go_wp2_with fail
        refine q6.mono ?_
        rintro y w6 ⟨rfl, p6, u6⟩
        clear q6
        have HJ6 : Hid (WsI F n R pb w w6 m' o5 (k + 1 + 1) k5 true) := ⟨_, L6, ts6, H5.out.go HI.out.2.2.1 u6 p6 HC6.out.1 HC6.out.2, HR6.out.symm, by omega⟩
        clear p6 u6
        go_wp2_with fail
        go_roundg m'
        case measure => omega
        case rel => exact ⟨o5, k + 1 + 1, k5, true, rfl, rfl, HJ6⟩
      · rw [decide_eq_false hs6] at q6
        simp only [if_neg hs6] at q6
        rw [if_neg (by simpa using fun h => hs6 (hk6.2 h))] at hR6
        have HR6 : Hid (R = elseR m' (acc ++ [e3] ++ [e5]) r5) := (show R = _ from by rw [hts6]; exact hR6)
        go_wp2_with fail
        refine q6.mono ?_
        rintro y w6 ⟨rfl, p6, u6⟩
        clear q6
        rw [← hL6] at p6
        have HJ6 : Hid (WsI F n R pb w w6 m' o5 (k + 1 + 1) k5 false) := ⟨_, _, r5, H5.out.go HI.out.2.2.1 u6 p6 H5.out.cut (Sub.refl _), HR6.out.symm, by omega⟩
        clear p6 u6 hL6 hts6 hm6 hc6 hp6 hk6 hok6 hR6 hsub6 hs6
        go_wp2_with fail
        go_roundg m'
        case measure => omega
        case rel => exact ⟨o5, k + 1 + 1, k5, false, rfl, rfl, HJ6⟩
    | false =>
      have j2 : elseR gk acc ts2 = R := j2
      have hgn : gk ≤ n := by omega
      have hkb : k ≤ 2 * n := by omega
      obtain ⟨c6, L6, t6, ts6, hL6, hts6, hm6, hc6⟩ := H2.out.cut.ne
      have hp6 := H2.out.par
      rw [hL6] at hp6
      have q6 := takes_any pb c6 L6 wElse _ hp6
      have hk6 := mt_eq hm6 (a := wElse) (by decide) (by decide)
      have hok6 := H2.out.ok t6 (by rw [hts6]; exact List.mem_cons_self ..)
      have hR6 := j2.symm
      rw [elseR, hts6, isT_cons] at hR6
      have hsub6 := Sub.cons t6 ts6
      rw [← hts6] at hsub6
      clear j1 j2 j3
      by_cases hs6 : c6.b = wElse
      · rw [decide_eq_true hs6] at q6
        simp only [if_pos hs6] at q6
        rw [if_pos (by simpa using hk6.1 hs6)] at hR6
        have HR6 : Hid (R = (rd gk (.line 1) ts6).bind fun c r3 => wantT r3 wEnd fun r4 => .ok [heldE 22 (acc ++ c)] r4) := hR6
        have HC6 : Hid (Cut L6 ts6 ∧ Sub ts6 ts2) := ⟨hc6 (hok6.lt (by rw [hk6.1 hs6]; decide)), hsub6⟩
        clear hL6 hts6 hm6 hc6 hp6 hk6 hok6 hR6 hsub6 hs6
        go_wp2_with fail
        refine q6.mono ?_
        rintro y w6 ⟨rfl, p6, u6⟩
        clear q6
        have H6 : Hid _ := H2.out.go HI.out.2.2.1 u6 p6 HC6.out.1 HC6.out.2
        clear p6 u6
        have q7 := HI.out.1 (noB F ao (k) c) gk (hgn) pb L6 ts6 w6 H6.out.cut H6.out.ok H6.out.par (H6.out.hx HI.out.2.2.1) (bind_out (by rw [← HR6.out]; exact HI.out.2.2.2))
        go_wp2_with fail
        refine q7.mono ?_
        rintro y w7 ⟨hy, u7⟩
        clear q7
        obtain ⟨e7, r7, b7, L7, hE7, rfl, h1, h2, h3⟩ | ⟨why, p, hE, rfl⟩ := hy
        rotate_left
        · have HRx : Hid (ROut F pb R (.panicked [{ v := refV why p, recovered := false }]) w7 ∧ Tch (fun i => i = pb) w w7) := ⟨Or.inr ⟨why, p, by rw [HR6.out, hE]; rfl, rfl⟩, H6.out.tch.trans' u7⟩
          clear hE u7
          go_wp2_with fail
          exact ⟨rfl, HRx.out⟩
        obtain ⟨o7, k7, v7, hr7, hw7⟩ := (H6.out.go HI.out.2.2.1 u7 h2 h3 (HI.out.2.1 _ _ _ _ _ hE7)).app HI.out.2.2.1 (by omega) h1
        have H7 : Hid _ := hw7
        have hR7 := HR6.out
        rw [hE7] at hR7
        have HR7 : Hid (R = wantT r7 wEnd fun r4 => .ok [heldE 22 (acc ++ [e7])] r4) := hR7
        clear hE7 h1 h2 h3 u7 hw7 hR7
        go_wp2_with (at_builtin; refine wpList_app _ rfl _ _ 65 rfl rfl _ _ rfl rfl hr7 ?_)
        clear hr7
        obtain ⟨c8, L8, t8, ts8, hL8, hts8, hm8, hc8⟩ := H7.out.cut.ne
        have hp8 := H7.out.par
        rw [hL8] at hp8
        have q8 := want_any pb c8 L8 wEnd _ hp8
        have hk8 := mt_eq hm8 (a := wEnd) (by decide) (by decide)
        have hok8 := H7.out.ok t8 (by rw [hts8]; exact List.mem_cons_self ..)
        have hR8 := HR7.out.trans (want_bind hts8)
        have hsub8 := Sub.cons t8 ts8
        rw [← hts8] at hsub8
        by_cases hs8 : c8.b = wEnd
        rotate_left
        · simp only [if_neg hs8] at q8
          rw [if_neg (fun h => hs8 (hk8.2 h))] at hR8
          have HE : Hid (c8.p = t8.p ∧ R = .no 110 t8.p) := ⟨hm8.1, hR8⟩
          clear hL8 hts8 hm8 hc8 hp8 hk8 hok8 hR8 hsub8 hs8
          go_wp2_with fail
          refine q8.mono ?_
          rintro y wx ⟨rfl, tx⟩
          clear q8
          have HRx : Hid (ROut F pb R (.panicked [{ v := refV 110 c8.p, recovered := false }]) wx ∧ Tch (fun i => i = pb) w wx) := ⟨Or.inr ⟨110, t8.p, HE.out.2, by rw [HE.out.1]⟩, H7.out.tch.trans' tx⟩
          clear tx
          go_wp2_with fail
          exact ⟨rfl, HRx.out⟩
        simp only [if_pos hs8] at q8
        rw [if_pos (hk8.1 hs8)] at hR8
        have HR8 : Hid _ := hR8
        have HC8 : Hid (Cut L8 ts8 ∧ Sub ts8 _) := ⟨hc8 (hok8.lt (by rw [hk8.1 hs8]; decide)), hsub8⟩
        clear hL8 hts8 hm8 hc8 hp8 hk8 hok8 hR8 hsub8 hs8
        go_wp2_with fail
        refine q8.mono ?_
        rintro y w8 ⟨⟨rfl, p8⟩, u8⟩
        clear q8
        have H8 : Hid _ := H7.out.go HI.out.2.2.1 u8 p8 HC8.out.1 HC8.out.2
        clear p8 u8
        have q9 := held_any F 22 (acc ++ [e7]) o7 k7 _ (HI.out.2.2.1.tch H8.out.tch).fb (by rw [H8.out.len]; exact H8.out.le.2) H8.out.le.1
        rw [H8.out.len] at q9
        go_wp2_with fail
        refine q9.mono ?_
        rintro y w9 ⟨⟨d, rfl, hd⟩, u9⟩
        clear q9
        have HR9 : Hid (ROut F pb R (.returned (.pointer (some ⟨d, 0, none⟩))) w9 ∧ Tch (fun i => i = pb) w w9) := ⟨Or.inl ⟨_, ts8, d, L8, HR8.out, rfl, hd, H8.out.par.no u9, H8.out.cut⟩, H8.out.tch.trans' (u9.mono (fun _ _ h => h.elim))⟩
        clear hd u9
        go_wp2_with fail
        go_ret
        exact HR9.out
      · rw [decide_eq_false hs6] at q6
        simp only [if_neg hs6] at q6
        rw [if_neg (by simpa using fun h => hs6 (hk6.2 h))] at hR6
        have HR6 : Hid (R = wantT ts2 wEnd fun r3 => .ok [heldE 22 acc] r3) := (show R = _ from by rw [hts6]; exact hR6)
        have HL6 : Hid (L2 = c6 :: L6) := hL6
        clear hL6 hts6 hm6 hc6 hp6 hk6 hok6 hR6 hsub6 hs6
        go_wp2_with fail
        refine q6.mono ?_
        rintro y w6 ⟨rfl, p6, u6⟩
        clear q6
        rw [← HL6.out] at p6
        have H6 : Hid _ := H2.out.go HI.out.2.2.1 u6 p6 H2.out.cut (Sub.refl _)
        clear p6 u6
        obtain ⟨c8, L8, t8, ts8, hL8, hts8, hm8, hc8⟩ := H6.out.cut.ne
        have hp8 := H6.out.par
        rw [hL8] at hp8
        have q8 := want_any pb c8 L8 wEnd _ hp8
        have hk8 := mt_eq hm8 (a := wEnd) (by decide) (by decide)
        have hok8 := H6.out.ok t8 (by rw [hts8]; exact List.mem_cons_self ..)
        have hR8 := HR6.out.trans (want_bind hts8)
        have hsub8 := Sub.cons t8 ts8
        rw [← hts8] at hsub8
        by_cases hs8 : c8.b = wEnd
        rotate_left
        · simp only [if_neg hs8] at q8
          rw [if_neg (fun h => hs8 (hk8.2 h))] at hR8
          have HE : Hid (c8.p = t8.p ∧ R = .no 110 t8.p) := ⟨hm8.1, hR8⟩
          clear hL8 hts8 hm8 hc8 hp8 hk8 hok8 hR8 hsub8 hs8
          go_wp2_with fail
          refine q8.mono ?_
          rintro y wx ⟨rfl, tx⟩
          clear q8
          have HRx : Hid (ROut F pb R (.panicked [{ v := refV 110 c8.p, recovered := false }]) wx ∧ Tch (fun i => i = pb) w wx) := ⟨Or.inr ⟨110, t8.p, HE.out.2, by rw [HE.out.1]⟩, H6.out.tch.trans' tx⟩
          clear tx
          go_wp2_with fail
          exact ⟨rfl, HRx.out⟩
        simp only [if_pos hs8] at q8
        rw [if_pos (hk8.1 hs8)] at hR8
        have HR8 : Hid _ := hR8
        have HC8 : Hid (Cut L8 ts8 ∧ Sub ts8 _) := ⟨hc8 (hok8.lt (by rw [hk8.1 hs8]; decide)), hsub8⟩
        clear hL8 hts8 hm8 hc8 hp8 hk8 hok8 hR8 hsub8 hs8
        go_wp2_with fail
        refine q8.mono ?_
        rintro y w8 ⟨⟨rfl, p8⟩, u8⟩
        clear q8
        have H8 : Hid _ := H6.out.go HI.out.2.2.1 u8 p8 HC8.out.1 HC8.out.2
        clear p8 u8
        have q9 := held_any F 22 acc ao c _ (HI.out.2.2.1.tch H8.out.tch).fb (by rw [H8.out.len]; exact H8.out.le.2) H8.out.le.1
        rw [H8.out.len] at q9
        go_wp2_with fail
        refine q9.mono ?_
        rintro y w9 ⟨⟨d, rfl, hd⟩, u9⟩
        clear q9
        have HR9 : Hid (ROut F pb R (.returned (.pointer (some ⟨d, 0, none⟩))) w9 ∧ Tch (fun i => i = pb) w w9) := ⟨Or.inl ⟨_, ts8, d, L8, HR8.out, rfl, hd, H8.out.par.no u9, H8.out.cut⟩, H8.out.tch.trans' (u9.mono (fun _ _ h => h.elim))⟩
        clear hd u9
        go_wp2_with fail
        go_ret
        exact HR9.out
end Go.Proofs.YtmaekkhmiafnmaaGreatDoor
namespace Go.Proofs.YtmaekkhmiafnmaaGreatDoor
open Go.RowKit Go Go.Lib
variable {F : Nat → Prop}
def tstR (n o : Nat) (ts : List Tk) : Rs := if o = 12 then wantT ts wOpen fun r2 => (rd n (.list []) r2).bind fun l r3 => wantT r3 wShut fun r4 => .ok l r4 else if o = 13 then (rd n (.line 5) ts).bind fun b r2 => wantT r2 wAnd fun r3 => (rd n (.line 5) r3).bind fun c r4 => .ok (b ++ c) r4 else rd n (.line 5) ts
def CTs (F : Nat → Prop) (f n : Nat) : Prop := ∀ (o pb : Nat) (L : List Ct) (ts : List Tk) (w : World), o ∈ [12, 13, 14] → Cut L ts → (∀ t ∈ ts, tkOk t) → PB w pb L → HX F w pb → tstR n o ts ≠ .out →
  Calls Tryz.prog f #[.pointer (some ⟨pb, 0, none⟩), .int .i64 (o : Nat)] w fun x w' => LOut F pb (tstR n o ts) x w' ∧ Tch (fun i => i = pb) w w'
structure PS1 (pb : Nat) (w wr : World) (L : List Ct) (ts : List Tk) : Prop where
  par : PB wr pb L
  cut : Cut L ts
  ok : ∀ t ∈ ts, tkOk t
  tch : Tch (fun i => i = pb) w wr
theorem PS1.go {pb : Nat} {w wr w3 : World} {L L3 : List Ct} {ts ts3 : List Tk} (h : PS1 pb w wr L ts) (t : Tch (fun i => i = pb) wr w3) (p : PB w3 pb L3) (hc : Cut L3 ts3) (hs : Sub ts3 ts) : PS1 pb w w3 L3 ts3 :=
  ⟨p, hc, fun t ht => h.ok t (hs t ht), h.tch.trans' t⟩
theorem PS1.al {pb : Nat} {w wr w3 : World} {L : List Ct} {ts : List Tk} (h : PS1 pb w wr L ts) (t : Tch (fun _ => False) wr w3) : PS1 pb w w3 L ts := h.go (t.mono (fun _ _ h => h.elim)) (h.par.no t) h.cut (Sub.refl _)
theorem tested_any (n : Nat) (hls : CLs F 200 n) (hj : CL F 179 n 5) : CTs F 181 n := by
  intro o pb L ts w ho hc hok hp hx hne
  obtain ⟨R, hR⟩ : ∃ R, R = tstR n o ts := ⟨_, rfl⟩
  rw [← hR] at hne ⊢
  have HI : Hid (CLs F 200 n ∧ CL F 179 n 5 ∧ (∀ m nt ts l r, rd m nt ts = .ok l r → Sub r ts) ∧ HX F w pb ∧ R ≠ .out) := ⟨hls, hj, fun m nt ts l r h => rd_sub m nt ts l r h, hx, hne⟩
  have H0 : Hid (PS1 pb w w L ts) := ⟨hp, hc, hok, Tch.refl _ _⟩
  have Ho : Hid _ := ho
  clear hls hj hx hne hc hp hok ho
  unfold tstR at hR
  by_cases h12 : o = 12
  · rw [if_pos h12] at hR
    have HR0 : Hid _ := hR
    subst h12
    clear hR Ho
    obtain ⟨c1, L1, t1, ts1, hL1, hts1, hm1, hc1⟩ := H0.out.cut.ne
    have hp1 := H0.out.par
    rw [hL1] at hp1
    have q1 := want_any pb c1 L1 wOpen _ hp1
    have hk1 := mt_eq hm1 (a := wOpen) (by decide) (by decide)
    have hok1 := H0.out.ok t1 (by rw [hts1]; exact List.mem_cons_self ..)
    have hR1 := HR0.out.trans (want_bind hts1)
    have hsub1 := Sub.cons t1 ts1
    rw [← hts1] at hsub1
    by_cases hs1 : c1.b = wOpen
    rotate_left
    · simp only [if_neg hs1] at q1
      rw [if_neg (fun h => hs1 (hk1.2 h))] at hR1
      have HE : Hid (c1.p = t1.p ∧ R = .no 110 t1.p) := ⟨hm1.1, hR1⟩
      clear hL1 hts1 hm1 hc1 hp1 hk1 hok1 hR1 hsub1 hs1
      go_enter Tryz.func181, Tryz.ntmps181
      go_wp2_with fail
      refine q1.mono ?_
      rintro y wx ⟨rfl, tx⟩
      clear q1
      have HRx : Hid (LOut F pb R (.panicked [{ v := refV 110 c1.p, recovered := false }]) wx ∧ Tch (fun i => i = pb) w wx) := ⟨Or.inr ⟨110, t1.p, HE.out.2, by rw [HE.out.1]⟩, H0.out.tch.trans' tx⟩
      clear tx
      go_wp2_with fail
      exact ⟨rfl, HRx.out⟩
    simp only [if_pos hs1] at q1
    rw [if_pos (hk1.1 hs1)] at hR1
    have HR1 : Hid _ := hR1
    have HC1 : Hid (Cut L1 ts1 ∧ Sub ts1 _) := ⟨hc1 (hok1.lt (by rw [hk1.1 hs1]; decide)), hsub1⟩
    clear hL1 hts1 hm1 hc1 hp1 hk1 hok1 hR1 hsub1 hs1
    go_enter Tryz.func181, Tryz.ntmps181
    go_wp2_with fail
    refine q1.mono ?_
    rintro y w1 ⟨⟨rfl, p1⟩, u1⟩
    clear q1
    have H1 : Hid _ := H0.out.go u1 p1 HC1.out.1 HC1.out.2
    have U1 : Hid _ := u1
    clear p1 u1
    have q2 := HI.out.1 pb L1 ts1 w1 H1.out.cut H1.out.ok H1.out.par (HI.out.2.2.2.1.tch H1.out.tch) (bind_out (by rw [← HR1.out]; exact HI.out.2.2.2.2))
    go_wp2_with fail
    refine q2.mono ?_
    rintro y w2 ⟨hy, u2⟩
    clear q2
    obtain ⟨l2, r2, ao, cc, L2, hE2, rfl, g1, g2, h2, h3⟩ | ⟨why, p, hE, rfl⟩ := hy
    rotate_left
    · have HRx : Hid (LOut F pb R (.panicked [{ v := refV why p, recovered := false }]) w2 ∧ Tch (fun i => i = pb) w w2) := ⟨Or.inr ⟨why, p, by rw [HR1.out, hE]; rfl, rfl⟩, H1.out.tch.trans' u2⟩
      clear hE u2
      go_wp2_with fail
      exact ⟨rfl, HRx.out⟩
    have H2 : Hid _ := H1.out.go u2 h2 h3 (HI.out.2.2.1 _ _ _ _ _ hE2)
    have HG : Hid (l2.length ≤ cc ∧ LE w2 F l2 ao) := ⟨g1, g2⟩
    have hR2 := HR1.out
    rw [hE2] at hR2
    have HR2 : Hid (R = wantT r2 wShut fun r4 => .ok l2 r4) := hR2
    clear hE2 g1 g2 h2 h3 u2 hR2
    obtain ⟨c3, L3, t3, ts3, hL3, hts3, hm3, hc3⟩ := H2.out.cut.ne
    have hp3 := H2.out.par
    rw [hL3] at hp3
    have q3 := want_any pb c3 L3 wShut _ hp3
    have hk3 := mt_eq hm3 (a := wShut) (by decide) (by decide)
    have hok3 := H2.out.ok t3 (by rw [hts3]; exact List.mem_cons_self ..)
    have hR3 := HR2.out.trans (want_bind hts3)
    have hsub3 := Sub.cons t3 ts3
    rw [← hts3] at hsub3
    by_cases hs3 : c3.b = wShut
    rotate_left
    · simp only [if_neg hs3] at q3
      rw [if_neg (fun h => hs3 (hk3.2 h))] at hR3
      have HE : Hid (c3.p = t3.p ∧ R = .no 110 t3.p) := ⟨hm3.1, hR3⟩
      clear hL3 hts3 hm3 hc3 hp3 hk3 hok3 hR3 hsub3 hs3
      go_wp2_with fail
      refine q3.mono ?_
      rintro y wx ⟨rfl, tx⟩
      clear q3
      have HRx : Hid (LOut F pb R (.panicked [{ v := refV 110 c3.p, recovered := false }]) wx ∧ Tch (fun i => i = pb) w wx) := ⟨Or.inr ⟨110, t3.p, HE.out.2, by rw [HE.out.1]⟩, H2.out.tch.trans' tx⟩
      clear tx
      go_wp2_with fail
      exact ⟨rfl, HRx.out⟩
    simp only [if_pos hs3] at q3
    rw [if_pos (hk3.1 hs3)] at hR3
    have HR3 : Hid _ := hR3
    have HC3 : Hid (Cut L3 ts3 ∧ Sub ts3 _) := ⟨hc3 (hok3.lt (by rw [hk3.1 hs3]; decide)), hsub3⟩
    clear hL3 hts3 hm3 hc3 hp3 hk3 hok3 hR3 hsub3 hs3
    go_wp2_with fail
    refine q3.mono ?_
    rintro y w3 ⟨⟨rfl, p3⟩, u3⟩
    clear q3
    have H3 : Hid _ := H2.out.go u3 p3 HC3.out.1 HC3.out.2
    have U3 : Hid _ := u3
    clear p3 u3
    have HR9 : Hid (LOut F pb R (.returned (.slice ao l2.length cc)) w3 ∧ Tch (fun i => i = pb) w w3) := ⟨Or.inl ⟨l2, ts3, ao, cc, L3, HR3.out, rfl, HG.out.1, HG.out.2.tch U3.out HI.out.2.2.2.1.tp, H3.out.par, H3.out.cut⟩, H3.out.tch⟩
    go_wp2_with fail
    go_ret
    exact HR9.out
  rw [if_neg h12] at hR
  have h12I : ¬ ((o : Nat) : Int) = 12 := by omega
  by_cases h13 : o = 13
  · rw [if_pos h13] at hR
    have HR0 : Hid _ := hR
    subst h13
    clear hR Ho h12 h12I
    have q1 := HI.out.2.1 pb L ts w H0.out.cut H0.out.ok H0.out.par (HI.out.2.2.2.1.tch H0.out.tch) (bind_out (by rw [← HR0.out]; exact HI.out.2.2.2.2))
    go_enter Tryz.func181, Tryz.ntmps181
    go_wp2_with fail
    refine q1.mono ?_
    rintro y w1 ⟨hy, u1⟩
    clear q1
    obtain ⟨e1, r1, b1, L1, hE1, rfl, h1, h2, h3⟩ | ⟨why, p, hE, rfl⟩ := hy
    rotate_left
    · have HRx : Hid (LOut F pb R (.panicked [{ v := refV why p, recovered := false }]) w1 ∧ Tch (fun i => i = pb) w w1) := ⟨Or.inr ⟨why, p, by rw [HR0.out, hE]; rfl, rfl⟩, H0.out.tch.trans' u1⟩
      clear hE u1
      go_wp2_with fail
      exact ⟨rfl, HRx.out⟩
    have H1 : Hid _ := H0.out.go u1 h2 h3 (HI.out.2.2.1 _ _ _ _ _ hE1)
    have HT1 : Hid (TR w1 F e1 b1) := h1
    have U1 : Hid _ := u1
    have hR1 := HR0.out
    rw [hE1] at hR1
    have HR1 : Hid (R = wantT r1 wAnd fun r3 => (rd n (.line 5) r3).bind fun c r4 => .ok ([e1] ++ c) r4) := hR1
    clear hE1 h1 h2 h3 u1 hR1
    obtain ⟨c2, L2, t2, ts2, hL2, hts2, hm2, hc2⟩ := H1.out.cut.ne
    have hp2 := H1.out.par
    rw [hL2] at hp2
    have q2 := want_any pb c2 L2 wAnd _ hp2
    have hk2 := mt_eq hm2 (a := wAnd) (by decide) (by decide)
    have hok2 := H1.out.ok t2 (by rw [hts2]; exact List.mem_cons_self ..)
    have hR2 := HR1.out.trans (want_bind hts2)
    have hsub2 := Sub.cons t2 ts2
    rw [← hts2] at hsub2
    by_cases hs2 : c2.b = wAnd
    rotate_left
    · simp only [if_neg hs2] at q2
      rw [if_neg (fun h => hs2 (hk2.2 h))] at hR2
      have HE : Hid (c2.p = t2.p ∧ R = .no 110 t2.p) := ⟨hm2.1, hR2⟩
      clear hL2 hts2 hm2 hc2 hp2 hk2 hok2 hR2 hsub2 hs2
      go_wp2_with fail
      refine q2.mono ?_
      rintro y wx ⟨rfl, tx⟩
      clear q2
      have HRx : Hid (LOut F pb R (.panicked [{ v := refV 110 c2.p, recovered := false }]) wx ∧ Tch (fun i => i = pb) w wx) := ⟨Or.inr ⟨110, t2.p, HE.out.2, by rw [HE.out.1]⟩, H1.out.tch.trans' tx⟩
      clear tx
      go_wp2_with fail
      exact ⟨rfl, HRx.out⟩
    simp only [if_pos hs2] at q2
    rw [if_pos (hk2.1 hs2)] at hR2
    have HR2 : Hid _ := hR2
    have HC2 : Hid (Cut L2 ts2 ∧ Sub ts2 _) := ⟨hc2 (hok2.lt (by rw [hk2.1 hs2]; decide)), hsub2⟩
    clear hL2 hts2 hm2 hc2 hp2 hk2 hok2 hR2 hsub2 hs2
    go_wp2_with fail
    refine q2.mono ?_
    rintro y w2 ⟨⟨rfl, p2⟩, u2⟩
    clear q2
    have H2 : Hid _ := H1.out.go u2 p2 HC2.out.1 HC2.out.2
    have U2 : Hid _ := u2
    clear p2 u2
    have q3 := HI.out.2.1 pb L2 ts2 w2 H2.out.cut H2.out.ok H2.out.par (HI.out.2.2.2.1.tch H2.out.tch) (bind_out (by rw [← HR2.out]; exact HI.out.2.2.2.2))
    go_wp2_with fail
    refine q3.mono ?_
    rintro y w3 ⟨hy, u3⟩
    clear q3
    obtain ⟨e3, r3, b3, L3, hE3, rfl, h1, h2, h3⟩ | ⟨why, p, hE, rfl⟩ := hy
    rotate_left
    · have HRx : Hid (LOut F pb R (.panicked [{ v := refV why p, recovered := false }]) w3 ∧ Tch (fun i => i = pb) w w3) := ⟨Or.inr ⟨why, p, by rw [HR2.out, hE]; rfl, rfl⟩, H2.out.tch.trans' u3⟩
      clear hE u3
      go_wp2_with fail
      exact ⟨rfl, HRx.out⟩
    have H3 : Hid _ := H2.out.go u3 h2 h3 (HI.out.2.2.1 _ _ _ _ _ hE3)
    have HT3 : Hid (TR w3 F e3 b3) := h1
    have U3 : Hid _ := u3
    have hR3 := HR2.out
    rw [hE3] at hR3
    have HR3 : Hid (R = .ok [e1, e3] r3) := hR3
    clear hE3 h1 h2 h3 u3 hR3
    have t4 : Tch (fun _ => False) w3 (w3.alloc (.cells #[.pointer (some ⟨b1, 0, none⟩), .pointer (some ⟨b3, 0, none⟩)] 35)) := Tch.alloc _ _ _
    have HR9 : Hid (LOut F pb R (.returned (.slice (some ⟨w3.heap.size, 0, none⟩) 2 2)) (w3.alloc (.cells #[.pointer (some ⟨b1, 0, none⟩), .pointer (some ⟨b3, 0, none⟩)] 35)) ∧ Tch (fun i => i = pb) w (w3.alloc (.cells #[.pointer (some ⟨b1, 0, none⟩), .pointer (some ⟨b3, 0, none⟩)] 35))) := by
      have hx3 := HI.out.2.2.2.1.tch H3.out.tch
      exact ⟨Or.inl ⟨[e1, e3], r3, _, 2, L3, HR3.out, rfl, Nat.le_refl _, LE.two (TR.tch (U2.out.trans' U3.out) hx3.tp HT1.out) HT3.out hx3.fb _, H3.out.par.no t4, H3.out.cut⟩, H3.out.tch.trans' (t4.mono (fun _ _ h => h.elim))⟩
    clear t4
    go_wp2_with fail
    go_ret
    exact HR9.out
  rw [if_neg h13] at hR
  have h13I : ¬ ((o : Nat) : Int) = 13 := by omega
  have HR0 : Hid (R = (rd n (.line 5) ts).bind fun l r => .ok l r) := (show R = _ from by rw [hR]; cases rd n (.line 5) ts <;> rfl)
  clear hR Ho h12 h13
  have q1 := HI.out.2.1 pb L ts w H0.out.cut H0.out.ok H0.out.par (HI.out.2.2.2.1.tch H0.out.tch) (bind_out (by rw [← HR0.out]; exact HI.out.2.2.2.2))
  go_enter Tryz.func181, Tryz.ntmps181
  go_wp2_with fail
  refine q1.mono ?_
  rintro y w1 ⟨hy, u1⟩
  clear q1
  obtain ⟨e1, r1, b1, L1, hE1, rfl, h1, h2, h3⟩ | ⟨why, p, hE, rfl⟩ := hy
  rotate_left
  · have HRx : Hid (LOut F pb R (.panicked [{ v := refV why p, recovered := false }]) w1 ∧ Tch (fun i => i = pb) w w1) := ⟨Or.inr ⟨why, p, by rw [HR0.out, hE]; rfl, rfl⟩, H0.out.tch.trans' u1⟩
    clear hE u1
    go_wp2_with fail
    exact ⟨rfl, HRx.out⟩
  have H1 : Hid _ := H0.out.go u1 h2 h3 (HI.out.2.2.1 _ _ _ _ _ hE1)
  have HT1 : Hid (TR w1 F e1 b1) := h1
  have U1 : Hid _ := u1
  have hR1 := HR0.out
  rw [hE1] at hR1
  have HR1 : Hid (R = .ok [e1] r1) := hR1
  clear hE1 h1 h2 h3 u1 hR1
  have t4 : Tch (fun _ => False) w1 (w1.alloc (.cells #[.pointer (some ⟨b1, 0, none⟩)] 35)) := Tch.alloc _ _ _
  have HR9 : Hid (LOut F pb R (.returned (.slice (some ⟨w1.heap.size, 0, none⟩) 1 1)) (w1.alloc (.cells #[.pointer (some ⟨b1, 0, none⟩)] 35)) ∧ Tch (fun i => i = pb) w (w1.alloc (.cells #[.pointer (some ⟨b1, 0, none⟩)] 35))) := by
    have hx3 := HI.out.2.2.2.1.tch H1.out.tch
    exact ⟨Or.inl ⟨[e1], r1, _, 1, L1, HR1.out, rfl, Nat.le_refl _, LE.one HT1.out hx3.fb _, H1.out.par.no t4, H1.out.cut⟩, H1.out.tch.trans' (t4.mono (fun _ _ h => h.elim))⟩
  clear t4
  go_wp2_with fail
  go_ret
  exact HR9.out
end Go.Proofs.YtmaekkhmiafnmaaGreatDoor
