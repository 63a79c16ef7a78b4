import Derived.Test.YtmaekkhmiafnmaaGreatDoorEP7
import Derived.Test.YtmaekkhmiafnmaaGreatDoorEFu
import Derived.Test.YtmaekkhmiafnmaaGreatDoorEV0
import Derived.Test.YtmaekkhmiafnmaaGreatDoorWriter2
set_option maxHeartbeats 4000000
set_option maxRecDepth 100000
namespace Go.Proofs.YtmaekkhmiafnmaaGreatDoor
open Go.RowKit Go Go.Lib
variable {F : Nat → Prop}
def CWd (F : Nat → Prop) (f n : Nat) : Prop := ∀ (pb : Nat) (c : Ct) (L : List Ct) (t : Tk) (ts : List Tk) (w : World), mt c t → t.k = 2 → tkOk t → Cut L ts → (∀ t ∈ ts, tkOk t) → PB w pb L → HX F w pb → wordR (rd n) t ts ≠ .out →
  Calls Tryz.prog f #[.pointer (some ⟨pb, 0, none⟩), tkV c] w fun x w' => ROut F pb (wordR (rd n) t ts) x w' ∧ Tch (fun i => i = pb) w w'
theorem first_line (n : Nat) (hw : CWd F 247 n) (h1 : CL F 49 n 1) : CL F 241 (n + 1) 9 := by
  intro pb L ts w hc hok hp hx hne
  obtain ⟨c, L', t, ts', rfl, rfl, hm, hc'⟩ := hc.ne
  have q1 := take_any pb c L' w hp
  have hr : rd (n + 1) (.line 9) (t :: ts') = if t.k = 0 then numT [] t ts' else if t.k = 1 then .ok [litE (parV t.b)] ts' else if t.k = 2 then wordR (rd n) t ts' else if t.b = wOpen then (rd n (.line 1) ts').bind fun e r1 => wantT r1 wShut fun r2 => .ok e r2 else .no 110 t.p := rfl
  have hok1 := hok t (List.mem_cons_self ..)
  have hok2 : ∀ t ∈ ts', tkOk t := fun t ht => hok t (List.mem_cons_of_mem _ ht)
  rw [hr] at hne ⊢
  have HI : Hid (mt c t ∧ tkOk t ∧ (∀ t ∈ ts', tkOk t) ∧ HX F w pb ∧ (t.k ≤ 3 → Cut L' ts') ∧ CWd F 247 n ∧ CL F 49 n 1) := ⟨hm, hok1, hok2, hx, hc', hw, h1⟩
  have hk0 := mt_k hm 0 (by omega)
  have hk1 := mt_k hm 1 (by omega)
  have hk2 := mt_k hm 2 (by omega)
  have hko := mt_eq hm (a := wOpen) (by decide) (by decide)
  have hpl := hp.lt
  clear hc hok hx h1 hw hr hp hc' hok1 hok2 hm
  have HW : Hid (∀ (kv : Value) w1, PB w1 pb L' → Tch (fun i => i = pb) w w1 → PB (w1.alloc (.cells #[kv, .string c.b, .int .i64 (c.p : Nat)] 111)) pb L' ∧ Tch (fun i => i = pb) w (w1.alloc (.cells #[kv, .string c.b, .int .i64 (c.p : Nat)] 111)) ∧ pb < (w1.alloc (.cells #[kv, .string c.b, .int .i64 (c.p : Nat)] 111)).heap.size) := fun kv w1 p1 t1 => by
    have t2 : Tch (fun _ => False) w1 (w1.alloc (.cells #[kv, .string c.b, .int .i64 (c.p : Nat)] 111)) := Tch.alloc _ _ _
    have p2 := p1.no t2
    exact ⟨p2, t1.trans' (t2.mono (fun _ _ h => h.elim)), p2.lt⟩
  have HE : Hid (c.b.size ≤ 400 ∨ 4 < t.k) := by
    by_cases h4 : t.k ≤ 4
    · left; rw [mt_b HI.out.1 h4]; exact HI.out.2.1.1
    · right; omega
  by_cases h0 : c.k = 0
  · have ht := hk0.1 h0
    rw [if_pos ht] at hne ⊢
    have Ht : Hid (t.k = 0) := ht
    clear hk0 hk1 hk2 hko hne ht
    obtain ⟨ck, cb, cpl⟩ := c
    simp only at h0
    subst h0
    go_enter Tryz.func241, Tryz.ntmps241
    go_wp2_with fail
    refine q1.mono ?_
    rintro y w1 ⟨rfl, p1, t1⟩
    clear q1
    have H2 : Hid _ := HW.out (.int .i64 0) w1 p1 t1
    clear p1 t1 HW
    have q2 := numberOf_any F ⟨#[]⟩ ⟨0, cb, cpl⟩ (w1.alloc (.cells #[.int .i64 0, .string cb, .int .i64 (cpl : Nat)] 111)) (HI.out.2.2.2.1.tch H2.out.2.1).fb (by have h400 := HE.out.resolve_right (by have := Ht.out; omega); have h1 : (⟨#[]⟩ : ByteArray).size = 0 := rfl; rw [ByteArray.size_append, h1]; simp only at h400 ⊢; omega) (HI.out.2.2.2.1.tch H2.out.2.1).lib
    go_wp2_with fail
    refine q2.mono ?_
    rintro y w4 ⟨hy, t4⟩
    clear q2
    rcases nb_R hy (mt_b HI.out.1 (by have := Ht.out; omega)) HI.out.1.1 ts' with ⟨e, b, hR, rfl, hT⟩ | ⟨hR, rfl⟩
    · have HR : Hid (ROut F pb (numT [] t ts') (.returned (.pointer (some ⟨b, 0, none⟩))) w4 ∧ Tch (fun i => i = pb) w w4) := ⟨Or.inl ⟨e, ts', b, L', hR, rfl, hT, H2.out.1.no t4, HI.out.2.2.2.2.1 (by have := Ht.out; omega)⟩, H2.out.2.1.trans' (t4.mono (fun _ _ h => h.elim))⟩
      clear hR hT t4 hy
      go_wp2_with fail
      go_ret
      exact HR.out
    · have HR : Hid (ROut F pb (numT [] t ts') (.panicked [{ v := refV 114 t.p, recovered := false }]) w4 ∧ Tch (fun i => i = pb) w w4) := ⟨Or.inr ⟨114, t.p, hR, rfl⟩, H2.out.2.1.trans' (t4.mono (fun _ _ h => h.elim))⟩
      clear hR t4 hy
      go_wp2_with fail
      exact ⟨rfl, HR.out⟩
  · have ht0 : ¬ t.k = 0 := fun h => h0 (hk0.2 h)
    rw [if_neg ht0] at hne ⊢
    by_cases h1 : c.k = 1
    · have ht := hk1.1 h1
      rw [if_pos ht] at hne ⊢
      have Ht : Hid (t.k = 1) := ht
      clear hk0 hk1 hk2 hko hne ht h0 ht0
      obtain ⟨ck, cb, cpl⟩ := c
      simp only at h1
      subst h1
      go_enter Tryz.func241, Tryz.ntmps241
      go_wp2_with fail
      refine q1.mono ?_
      rintro y w1 ⟨rfl, p1, t1⟩
      clear q1
      have H2 : Hid _ := HW.out (.int .i64 1) w1 p1 t1
      clear p1 t1 HW
      have hbb := mt_b HI.out.1 (by have := Ht.out; omega)
      simp only at hbb
      have HX2 := HI.out.2.2.2.1.tch H2.out.2.1
      have q2 := literalOf_any F ⟨1, cb, cpl⟩ (w1.alloc (.cells #[.int .i64 1, .string cb, .int .i64 (cpl : Nat)] 111)) HX2.fb (by have h400 := HE.out.resolve_right (by have := Ht.out; omega); simp only at h400 ⊢; omega) HX2.wds HX2.lib (by simp only; rw [hbb]; exact Or.inr (Or.inr (Or.inr (HI.out.2.1.2.1 Ht.out))))
      simp only [hbb] at q2
      have Hbb : Hid _ := hbb
      clear hbb HX2
      rw [← Hbb.out] at q2
      go_wp2_with fail
      refine q2.mono ?_
      rintro y w4 ⟨⟨b, rfl, hT⟩, t4⟩
      clear q2
      have HR : Hid (ROut F pb (.ok [litE (parV t.b)] ts') (.returned (.pointer (some ⟨b, 0, none⟩))) w4 ∧ Tch (fun i => i = pb) w w4) := ⟨Or.inl ⟨_, ts', b, L', by rw [← Hbb.out], rfl, hT, H2.out.1.no t4, HI.out.2.2.2.2.1 (by have := Ht.out; omega)⟩, H2.out.2.1.trans' (t4.mono (fun _ _ h => h.elim))⟩
      clear hT t4
      go_wp2_with fail
      go_ret
      exact HR.out
    · have ht1 : ¬ t.k = 1 := fun h => h1 (hk1.2 h)
      rw [if_neg ht1] at hne ⊢
      by_cases h2 : c.k = 2
      · have ht := hk2.1 h2
        rw [if_pos ht] at hne ⊢
        have Ht : Hid (t.k = 2) := ht
        have Hne : Hid _ := hne
        clear hk0 hk1 hk2 hko hne ht h0 ht0 h1 ht1
        obtain ⟨ck, cb, cpl⟩ := c
        simp only at h2
        subst h2
        go_enter Tryz.func241, Tryz.ntmps241
        go_wp2_with fail
        refine q1.mono ?_
        rintro y w1 ⟨rfl, p1, t1⟩
        clear q1
        have H2 : Hid _ := HW.out (.int .i64 2) w1 p1 t1
        clear p1 t1 HW
        have q2 := HI.out.2.2.2.2.2.1 pb ⟨2, cb, cpl⟩ L' t ts' (w1.alloc (.cells #[.int .i64 2, .string cb, .int .i64 (cpl : Nat)] 111)) HI.out.1 Ht.out HI.out.2.1 (HI.out.2.2.2.2.1 (by have := Ht.out; omega)) HI.out.2.2.1 H2.out.1 (HI.out.2.2.2.1.tch H2.out.2.1) Hne.out
        go_wp2_with fail
        refine q2.mono ?_
        rintro y w4 ⟨hy, t4⟩
        clear q2
        rcases hy with ⟨e, r, b, L2, hR, rfl, h1, h2, h3⟩ | ⟨why, p, hR, rfl⟩
        · have HR : Hid (ROut F pb (wordR (rd n) t ts') (.returned (.pointer (some ⟨b, 0, none⟩))) w4 ∧ Tch (fun i => i = pb) w w4) := ⟨Or.inl ⟨e, r, b, L2, hR, rfl, h1, h2, h3⟩, H2.out.2.1.trans' t4⟩
          clear hR h1 h2 h3 t4
          go_wp2_with fail
          go_ret
          exact HR.out
        · have HR : Hid (ROut F pb (wordR (rd n) t ts') (.panicked [{ v := refV why p, recovered := false }]) w4 ∧ Tch (fun i => i = pb) w w4) := ⟨Or.inr ⟨why, p, hR, rfl⟩, H2.out.2.1.trans' t4⟩
          clear hR t4
          go_wp2_with fail
          exact ⟨rfl, HR.out⟩
      · have ht2 : ¬ t.k = 2 := fun h => h2 (hk2.2 h)
        rw [if_neg ht2] at hne ⊢
        have h0I : ¬ ((c.k : Nat) : Int) = 0 := by omega
        have h1I : ¬ ((c.k : Nat) : Int) = 1 := by omega
        have h2I : ¬ ((c.k : Nat) : Int) = 2 := by omega
        by_cases hb : c.b = wOpen
        · have ht := hko.1 hb
          rw [if_pos ht] at hne ⊢
          have Hne : Hid _ := bind_out hne
          have h3 := HI.out.2.1.lt (by rw [ht]; decide)
          have Hc : Hid _ := HI.out.2.2.2.2.1 h3
          obtain ⟨R, hRd⟩ : ∃ R, R = ((rd n (.line 1) ts').bind fun e r1 => wantT r1 wShut fun r2 => .ok e r2) := ⟨_, rfl⟩
          rw [← hRd]
          have HRd : Hid _ := hRd
          clear hRd
          clear hk0 hk1 hk2 hko hne h0 ht0 h1 ht1 h2 ht2 ht h3
          obtain ⟨ck, cb, cpl⟩ := c
          simp only at hb
          subst hb
          go_enter Tryz.func241, Tryz.ntmps241
          go_wp2_with fail
          refine q1.mono ?_
          rintro y w1 ⟨rfl, p1, t1⟩
          clear q1
          have H2 : Hid _ := HW.out (.int .i64 (ck : Nat)) w1 p1 t1
          clear p1 t1 HW
          have q2 := HI.out.2.2.2.2.2.2 pb L' ts' (w1.alloc (.cells #[.int .i64 (ck : Nat), .string wOpen, .int .i64 (cpl : Nat)] 111)) Hc.out HI.out.2.2.1 H2.out.1 (HI.out.2.2.2.1.tch H2.out.2.1) Hne.out
          go_wp2_with fail
          refine q2.mono ?_
          rintro y w4 ⟨hy, t4⟩
          clear q2
          rcases hy with ⟨e, r, b, L3, hR, rfl, k1, k2, k3⟩ | ⟨why, p, hR, rfl⟩
          · obtain ⟨c3, L4, t3, ts3, rfl, rfl, hm3, hc3⟩ := k3.ne
            have q3 := want_any pb c3 L4 wShut w4 k2
            have hks := mt_eq hm3 (a := wShut) (by decide) (by decide)
            have hok3 : tkOk t3 := HI.out.2.2.1 t3 (rd_sub _ _ _ _ _ hR t3 (List.mem_cons_self ..))
            have hRR : R = if t3.b = wShut then .ok [e] ts3 else .no 110 t3.p := by
              rw [HRd.out, hR]
              show (if isT (t3 :: ts3) wShut = true then Rs.ok [e] ts3 else .no 110 t3.p) = _
              rw [isT_cons]
              by_cases h : t3.b = wShut
              · rw [if_pos (by simpa using h), if_pos h]
              · rw [if_neg (by simpa using h), if_neg h]
            by_cases hs : c3.b = wShut
            · simp only [if_pos hs] at q3
              rw [if_pos (hks.1 hs)] at hRR
              have HR : Hid (TR w4 F e b ∧ Tch (fun i => i = pb) w w4 ∧ Cut L4 ts3 ∧ R = .ok [e] ts3) := ⟨k1, H2.out.2.1.trans' t4, hc3 (hok3.lt (by rw [hks.1 hs]; decide)), hRR⟩
              clear hR k1 k2 k3 t4 hRR hks hok3 hm3 hc3 hs
              go_wp2_with fail
              refine q3.mono ?_
              rintro y w5 ⟨⟨rfl, p5⟩, t5⟩
              clear q3
              have HR5 : Hid (ROut F pb R (.returned (.pointer (some ⟨b, 0, none⟩))) w5 ∧ Tch (fun i => i = pb) w w5) := ⟨Or.inl ⟨e, ts3, b, L4, HR.out.2.2.2, rfl, TR.tch t5 HI.out.2.2.2.1.tp HR.out.1, p5, HR.out.2.2.1⟩, HR.out.2.1.trans' t5⟩
              clear p5 t5
              go_wp2_with fail
              go_ret
              exact HR5.out
            · simp only [if_neg hs] at q3
              rw [if_neg (fun h => hs (hks.2 h))] at hRR
              have HR : Hid (Tch (fun i => i = pb) w w4 ∧ c3.p = t3.p ∧ R = .no 110 t3.p) := ⟨H2.out.2.1.trans' t4, hm3.1, hRR⟩
              clear hR k1 k2 k3 t4 hRR hks hok3 hm3 hc3 hs
              go_wp2_with fail
              refine q3.mono ?_
              rintro y w5 ⟨rfl, t5⟩
              clear q3
              have HR5 : Hid (ROut F pb R (.panicked [{ v := refV 110 c3.p, recovered := false }]) w5 ∧ Tch (fun i => i = pb) w w5) := ⟨Or.inr ⟨110, t3.p, HR.out.2.2, by rw [HR.out.2.1]⟩, HR.out.1.trans' t5⟩
              clear t5
              go_wp2_with fail
              exact ⟨rfl, HR5.out⟩
          · have HR : Hid (ROut F pb R (.panicked [{ v := refV why p, recovered := false }]) w4 ∧ Tch (fun i => i = pb) w w4) := ⟨Or.inr ⟨why, p, by rw [HRd.out, hR]; rfl, rfl⟩, H2.out.2.1.trans' t4⟩
            clear hR t4
            go_wp2_with fail
            exact ⟨rfl, HR.out⟩
        · have ht : ¬ t.b = wOpen := fun h => hb (hko.2 h)
          rw [if_neg ht] at hne ⊢
          have hn : (c.b.toList == [40]) = false := by
            have h := str_ne hb
            rw [show wOpen.toList = [40] from by rw [Lib.toList_data]] at h
            exact h
          clear hk0 hk1 hk2 hko hne h0 ht0 h1 ht1 h2 ht2 ht hb
          go_enter Tryz.func241, Tryz.ntmps241
          go_wp2_with fail
          refine q1.mono ?_
          rintro y w1 ⟨rfl, p1, t1⟩
          clear q1
          have H2 : Hid _ := HW.out (.int .i64 (c.k : Nat)) w1 p1 t1
          clear p1 t1 HW
          have q2 := refused_any c (w1.alloc (.cells #[.int .i64 (c.k : Nat), .string c.b, .int .i64 (c.p : Nat)] 111))
          go_wp2_with fail
          refine q2.mono ?_
          rintro y w4 ⟨rfl, t4⟩
          clear q2
          have HR : Hid (ROut F pb (.no 110 t.p) (.panicked [{ v := refV 110 c.p, recovered := false }]) w4 ∧ Tch (fun i => i = pb) w w4) := ⟨Or.inr ⟨110, t.p, rfl, by rw [HI.out.1.1]⟩, H2.out.2.1.trans' (t4.mono (fun _ _ h => h.elim))⟩
          clear t4
          go_wp2_with fail
          exact ⟨rfl, HR.out⟩
end Go.Proofs.YtmaekkhmiafnmaaGreatDoor
namespace Go.Proofs.YtmaekkhmiafnmaaGreatDoor
open Go.RowKit Go
theorem isReserved_any (s : ByteArray) (w : World) :
    Calls Tryz.prog 249 #[.string s] w fun x w' => x = .returned (.bool (resW.any (fun a => decide (a = s)))) ∧ w' = w := by
  by_cases h0 : s = ⟨#[111, 114]⟩
  · subst h0
    go_enter Tryz.func249, Tryz.ntmps249
    go_wp2
    go_ret
    exact ⟨vret_bool (by decide), rfl⟩
  have n0 : (s.toList == [111, 114]) = false := by
    have h := str_ne h0
    rw [show (⟨#[111, 114]⟩ : ByteArray).toList = [111, 114] from by rw [Lib.toList_data]] at h
    exact h
  by_cases h1 : s = ⟨#[97, 110, 100]⟩
  · subst h1
    go_enter Tryz.func249, Tryz.ntmps249
    go_wp2
    go_ret
    exact ⟨vret_bool (by decide), rfl⟩
  have n1 : (s.toList == [97, 110, 100]) = false := by
    have h := str_ne h1
    rw [show (⟨#[97, 110, 100]⟩ : ByteArray).toList = [97, 110, 100] from by rw [Lib.toList_data]] at h
    exact h
  by_cases h2 : s = ⟨#[110, 111, 116]⟩
  · subst h2
    go_enter Tryz.func249, Tryz.ntmps249
    go_wp2
    go_ret
    exact ⟨vret_bool (by decide), rfl⟩
  have n2 : (s.toList == [110, 111, 116]) = false := by
    have h := str_ne h2
    rw [show (⟨#[110, 111, 116]⟩ : ByteArray).toList = [110, 111, 116] from by rw [Lib.toList_data]] at h
    exact h
  by_cases h3 : s = ⟨#[105, 115]⟩
  · subst h3
    go_enter Tryz.func249, Tryz.ntmps249
    go_wp2
    go_ret
    exact ⟨vret_bool (by decide), rfl⟩
  have n3 : (s.toList == [105, 115]) = false := by
    have h := str_ne h3
    rw [show (⟨#[105, 115]⟩ : ByteArray).toList = [105, 115] from by rw [Lib.toList_data]] at h
    exact h
  by_cases h4 : s = ⟨#[110, 117, 108, 108]⟩
  · subst h4
    go_enter Tryz.func249, Tryz.ntmps249
    go_wp2
    go_ret
    exact ⟨vret_bool (by decide), rfl⟩
  have n4 : (s.toList == [110, 117, 108, 108]) = false := by
    have h := str_ne h4
    rw [show (⟨#[110, 117, 108, 108]⟩ : ByteArray).toList = [110, 117, 108, 108] from by rw [Lib.toList_data]] at h
    exact h
  by_cases h5 : s = ⟨#[105, 110]⟩
  · subst h5
    go_enter Tryz.func249, Tryz.ntmps249
    go_wp2
    go_ret
    exact ⟨vret_bool (by decide), rfl⟩
  have n5 : (s.toList == [105, 110]) = false := by
    have h := str_ne h5
    rw [show (⟨#[105, 110]⟩ : ByteArray).toList = [105, 110] from by rw [Lib.toList_data]] at h
    exact h
  by_cases h6 : s = ⟨#[98, 101, 116, 119, 101, 101, 110]⟩
  · subst h6
    go_enter Tryz.func249, Tryz.ntmps249
    go_wp2
    go_ret
    exact ⟨vret_bool (by decide), rfl⟩
  have n6 : (s.toList == [98, 101, 116, 119, 101, 101, 110]) = false := by
    have h := str_ne h6
    rw [show (⟨#[98, 101, 116, 119, 101, 101, 110]⟩ : ByteArray).toList = [98, 101, 116, 119, 101, 101, 110] from by rw [Lib.toList_data]] at h
    exact h
  by_cases h7 : s = ⟨#[108, 105, 107, 101]⟩
  · subst h7
    go_enter Tryz.func249, Tryz.ntmps249
    go_wp2
    go_ret
    exact ⟨vret_bool (by decide), rfl⟩
  have n7 : (s.toList == [108, 105, 107, 101]) = false := by
    have h := str_ne h7
    rw [show (⟨#[108, 105, 107, 101]⟩ : ByteArray).toList = [108, 105, 107, 101] from by rw [Lib.toList_data]] at h
    exact h
  by_cases h8 : s = ⟨#[99, 97, 115, 101]⟩
  · subst h8
    go_enter Tryz.func249, Tryz.ntmps249
    go_wp2
    go_ret
    exact ⟨vret_bool (by decide), rfl⟩
  have n8 : (s.toList == [99, 97, 115, 101]) = false := by
    have h := str_ne h8
    rw [show (⟨#[99, 97, 115, 101]⟩ : ByteArray).toList = [99, 97, 115, 101] from by rw [Lib.toList_data]] at h
    exact h
  by_cases h9 : s = ⟨#[119, 104, 101, 110]⟩
  · subst h9
    go_enter Tryz.func249, Tryz.ntmps249
    go_wp2
    go_ret
    exact ⟨vret_bool (by decide), rfl⟩
  have n9 : (s.toList == [119, 104, 101, 110]) = false := by
    have h := str_ne h9
    rw [show (⟨#[119, 104, 101, 110]⟩ : ByteArray).toList = [119, 104, 101, 110] from by rw [Lib.toList_data]] at h
    exact h
  by_cases h10 : s = ⟨#[116, 104, 101, 110]⟩
  · subst h10
    go_enter Tryz.func249, Tryz.ntmps249
    go_wp2
    go_ret
    exact ⟨vret_bool (by decide), rfl⟩
  have n10 : (s.toList == [116, 104, 101, 110]) = false := by
    have h := str_ne h10
    rw [show (⟨#[116, 104, 101, 110]⟩ : ByteArray).toList = [116, 104, 101, 110] from by rw [Lib.toList_data]] at h
    exact h
  by_cases h11 : s = ⟨#[101, 108, 115, 101]⟩
  · subst h11
    go_enter Tryz.func249, Tryz.ntmps249
    go_wp2
    go_ret
    exact ⟨vret_bool (by decide), rfl⟩
  have n11 : (s.toList == [101, 108, 115, 101]) = false := by
    have h := str_ne h11
    rw [show (⟨#[101, 108, 115, 101]⟩ : ByteArray).toList = [101, 108, 115, 101] from by rw [Lib.toList_data]] at h
    exact h
  by_cases h12 : s = ⟨#[101, 110, 100]⟩
  · subst h12
    go_enter Tryz.func249, Tryz.ntmps249
    go_wp2
    go_ret
    exact ⟨vret_bool (by decide), rfl⟩
  have n12 : (s.toList == [101, 110, 100]) = false := by
    have h := str_ne h12
    rw [show (⟨#[101, 110, 100]⟩ : ByteArray).toList = [101, 110, 100] from by rw [Lib.toList_data]] at h
    exact h
  by_cases h13 : s = ⟨#[116, 114, 117, 101]⟩
  · subst h13
    go_enter Tryz.func249, Tryz.ntmps249
    go_wp2
    go_ret
    exact ⟨vret_bool (by decide), rfl⟩
  have n13 : (s.toList == [116, 114, 117, 101]) = false := by
    have h := str_ne h13
    rw [show (⟨#[116, 114, 117, 101]⟩ : ByteArray).toList = [116, 114, 117, 101] from by rw [Lib.toList_data]] at h
    exact h
  by_cases h14 : s = ⟨#[102, 97, 108, 115, 101]⟩
  · subst h14
    go_enter Tryz.func249, Tryz.ntmps249
    go_wp2
    go_ret
    exact ⟨vret_bool (by decide), rfl⟩
  have n14 : (s.toList == [102, 97, 108, 115, 101]) = false := by
    have h := str_ne h14
    rw [show (⟨#[102, 97, 108, 115, 101]⟩ : ByteArray).toList = [102, 97, 108, 115, 101] from by rw [Lib.toList_data]] at h
    exact h
  have hF : resW.any (fun a => decide (a = s)) = false := by
    rw [List.any_eq_false]
    intro a ha
    simp only [decide_eq_true_eq]
    rintro rfl
    simp only [resW, List.mem_cons, List.not_mem_nil, or_false] at ha
    rcases ha with h | h | h | h | h | h | h | h | h | h | h | h | h | h | h
    all_goals contradiction
  clear h0 h1 h2 h3 h4 h5 h6 h7 h8 h9 h10 h11 h12 h13 h14
  go_enter Tryz.func249, Tryz.ntmps249
  go_wp2
  go_ret
  exact ⟨vret_bool (by rw [hF]), rfl⟩
end Go.Proofs.YtmaekkhmiafnmaaGreatDoor
namespace Go.Proofs.YtmaekkhmiafnmaaGreatDoor
open Go.RowKit Go Go.Lib
variable {F : Nat → Prop}
def CCh (F : Nat → Prop) (f n : Nat) : Prop := ∀ (pb : Nat) (L : List Ct) (ts : List Tk) (w : World), Cut L ts → (∀ t ∈ ts, tkOk t) → PB w pb L → HX F w pb → (wantT ts wWhen fun r1 => rd n (.whens []) r1) ≠ .out →
  Calls Tryz.prog f #[.pointer (some ⟨pb, 0, none⟩)] w fun x w' => ROut F pb (wantT ts wWhen fun r1 => rd n (.whens []) r1) x w' ∧ Tch (fun i => i = pb) w w'
def fnR (n : Nat) (t : Tk) (ts : List Tk) : Rs := match fnOf t.b with
  | none => .no 110 t.p
  | some o => (rd n (.list []) ts).bind fun l r1 => wantT r1 wShut fun r2 => if few o ≤ l.length ∧ l.length ≤ mst o then .ok [heldE o l] r2 else .no 110 t.p
def CFn (F : Nat → Prop) (f n : Nat) : Prop := ∀ (pb : Nat) (c : Ct) (L : List Ct) (t : Tk) (ts : List Tk) (w : World), c.b = t.b → c.p = t.p → Cut L ts → (∀ t ∈ ts, tkOk t) → PB w pb L → HX F w pb → fnR n t ts ≠ .out →
  Calls Tryz.prog f #[.pointer (some ⟨pb, 0, none⟩), tkV c] w fun x w' => ROut F pb (fnR n t ts) x w' ∧ Tch (fun i => i = pb) w w'
theorem wordR_eq (n : Nat) (t : Tk) (r : List Tk) : wordR (rd n) t r = if t.b = wNull ∨ t.b = wTrue ∨ t.b = wFalse then .ok [litE (parV t.b)] r else if t.b = wCase then wantT r wWhen fun r1 => rd n (.whens []) r1 else if resW.any (fun a => decide (a = t.b)) = true then .no 110 t.p else if isT r wOpen = true then fnR n t r.tail else .ok [colE t.b] r := rfl
theorem worded_any (n : Nat) (hch : CCh F 248 n) (hfn : CFn F 250 n) : CWd F 247 n := by
  intro pb c L t ts w hm ht2 htk hc hok hp hx hne
  have hcb := mt_b hm (by omega)
  have hcp := hm.1
  have h400 : c.b.size ≤ 400 := by rw [hcb]; exact htk.1
  obtain ⟨ck, cb, cpl⟩ := c
  simp only at hcb hcp h400
  subst hcb
  subst hcp
  obtain ⟨w0, hw0⟩ : ∃ w0, w0 = w.alloc (.cells #[.int .i64 (ck : Nat), .string t.b, .int .i64 (t.p : Nat)] 111) := ⟨_, rfl⟩
  have t0 : Tch (fun _ => False) w w0 := by rw [hw0]; exact Tch.alloc _ _ _
  have p0 := hp.no t0
  have HI : Hid (PB w0 pb L ∧ HX F w0 pb ∧ Cut L ts ∧ (∀ t ∈ ts, tkOk t) ∧ Tch (fun i => i = pb) w w0 ∧ t.b.size ≤ 400 ∧ pb < w0.heap.size ∧ w0.heap.size = w.heap.size + 1 ∧ pb < w.heap.size) := ⟨p0, hx.tch (t0.mono (fun _ _ h => h.elim)), hc, hok, t0.mono (fun _ _ h => h.elim), h400, p0.lt, by rw [hw0]; simp, hp.lt⟩
  have Hw0 : Hid _ := hw0
  have Hfb : Hid (∀ i, F i → i < w.heap.size) := hx.fb
  rw [wordR_eq] at hne ⊢
  clear hm ht2 htk hc hok hp hx h400 t0 p0 hw0
  by_cases hwNull : t.b = wNull
  · rw [if_pos (by rw [hwNull]; decide)] at hne ⊢
    have q := literalOf_any F ⟨ck, t.b, t.p⟩ w0 HI.out.2.1.fb (by have := HI.out.2.2.2.2.2.1; simp only; omega) HI.out.2.1.wds HI.out.2.1.lib (by simp only; rw [hwNull]; decide)
    rw [Hw0.out] at q
    have HP : Hid _ := hwNull
    simp only [hwNull] at q
    obtain ⟨R, hRd⟩ : ∃ R, R = Rs.ok [litE (parV t.b)] ts := ⟨_, rfl⟩
    rw [← hRd]
    have HRd : Hid _ := hRd
    clear hRd hne hch hfn
    rw [hwNull]
    go_enter Tryz.func247, Tryz.ntmps247
    go_wp2_with fail
    refine q.mono ?_
    rintro y w4 ⟨⟨b, rfl, hT⟩, t4⟩
    clear q
    have t5 : Tch (fun _ => False) w0 w4 := by rw [Hw0.out, HP.out]; exact t4
    have HR : Hid (ROut F pb R (.returned (.pointer (some ⟨b, 0, none⟩))) w4 ∧ Tch (fun i => i = pb) w w4) := ⟨Or.inl ⟨_, ts, b, L, by rw [HRd.out, HP.out], rfl, hT, HI.out.1.no t5, HI.out.2.2.1⟩, HI.out.2.2.2.2.1.trans' (t5.mono (fun _ _ h => h.elim))⟩
    clear hT t4 t5
    go_wp2_with fail
    go_ret
    exact HR.out
  have nwNull : (t.b.toList == [110, 117, 108, 108]) = false := by
    have h := str_ne hwNull
    rw [show (wNull : ByteArray).toList = [110, 117, 108, 108] from by rw [Lib.toList_data]] at h
    exact h
  by_cases hwTrue : t.b = wTrue
  · rw [if_pos (by rw [hwTrue]; decide)] at hne ⊢
    have q := literalOf_any F ⟨ck, t.b, t.p⟩ w0 HI.out.2.1.fb (by have := HI.out.2.2.2.2.2.1; simp only; omega) HI.out.2.1.wds HI.out.2.1.lib (by simp only; rw [hwTrue]; decide)
    rw [Hw0.out] at q
    have HP : Hid _ := hwTrue
    simp only [hwTrue] at q
    obtain ⟨R, hRd⟩ : ∃ R, R = Rs.ok [litE (parV t.b)] ts := ⟨_, rfl⟩
    rw [← hRd]
    have HRd : Hid _ := hRd
    clear hRd hne hch hfn
    rw [hwTrue]
    go_enter Tryz.func247, Tryz.ntmps247
    go_wp2_with fail
    refine q.mono ?_
    rintro y w4 ⟨⟨b, rfl, hT⟩, t4⟩
    clear q
    have t5 : Tch (fun _ => False) w0 w4 := by rw [Hw0.out, HP.out]; exact t4
    have HR : Hid (ROut F pb R (.returned (.pointer (some ⟨b, 0, none⟩))) w4 ∧ Tch (fun i => i = pb) w w4) := ⟨Or.inl ⟨_, ts, b, L, by rw [HRd.out, HP.out], rfl, hT, HI.out.1.no t5, HI.out.2.2.1⟩, HI.out.2.2.2.2.1.trans' (t5.mono (fun _ _ h => h.elim))⟩
    clear hT t4 t5
    go_wp2_with fail
    go_ret
    exact HR.out
  have nwTrue : (t.b.toList == [116, 114, 117, 101]) = false := by
    have h := str_ne hwTrue
    rw [show (wTrue : ByteArray).toList = [116, 114, 117, 101] from by rw [Lib.toList_data]] at h
    exact h
  by_cases hwFalse : t.b = wFalse
  · rw [if_pos (by rw [hwFalse]; decide)] at hne ⊢
    have q := literalOf_any F ⟨ck, t.b, t.p⟩ w0 HI.out.2.1.fb (by have := HI.out.2.2.2.2.2.1; simp only; omega) HI.out.2.1.wds HI.out.2.1.lib (by simp only; rw [hwFalse]; decide)
    rw [Hw0.out] at q
    have HP : Hid _ := hwFalse
    simp only [hwFalse] at q
    obtain ⟨R, hRd⟩ : ∃ R, R = Rs.ok [litE (parV t.b)] ts := ⟨_, rfl⟩
    rw [← hRd]
    have HRd : Hid _ := hRd
    clear hRd hne hch hfn
    rw [hwFalse]
    go_enter Tryz.func247, Tryz.ntmps247
    go_wp2_with fail
    refine q.mono ?_
    rintro y w4 ⟨⟨b, rfl, hT⟩, t4⟩
    clear q
    have t5 : Tch (fun _ => False) w0 w4 := by rw [Hw0.out, HP.out]; exact t4
    have HR : Hid (ROut F pb R (.returned (.pointer (some ⟨b, 0, none⟩))) w4 ∧ Tch (fun i => i = pb) w w4) := ⟨Or.inl ⟨_, ts, b, L, by rw [HRd.out, HP.out], rfl, hT, HI.out.1.no t5, HI.out.2.2.1⟩, HI.out.2.2.2.2.1.trans' (t5.mono (fun _ _ h => h.elim))⟩
    clear hT t4 t5
    go_wp2_with fail
    go_ret
    exact HR.out
  have nwFalse : (t.b.toList == [102, 97, 108, 115, 101]) = false := by
    have h := str_ne hwFalse
    rw [show (wFalse : ByteArray).toList = [102, 97, 108, 115, 101] from by rw [Lib.toList_data]] at h
    exact h
  rw [if_neg (by rintro (h | h | h) <;> contradiction)] at hne ⊢
  by_cases hwCase : t.b = wCase
  · rw [if_pos hwCase] at hne ⊢
    have q := hch pb L ts w0 HI.out.2.2.1 HI.out.2.2.2.1 HI.out.1 HI.out.2.1 hne
    obtain ⟨R, hRd⟩ : ∃ R, R = (wantT ts wWhen fun r1 => rd n (.whens []) r1) := ⟨_, rfl⟩
    rw [← hRd] at q ⊢
    have HT : Hid _ := HI.out.2.2.2.2.1
    rw [Hw0.out] at q HT
    rw [hwCase] at q HT ⊢
    clear hRd hne hch hfn hwNull hwTrue hwFalse nwNull nwTrue nwFalse
    go_enter Tryz.func247, Tryz.ntmps247
    go_wp2_with fail
    refine q.mono ?_
    rintro y w4 ⟨hy, t4⟩
    clear q
    rcases hy with ⟨e, r, b, L2, hR, rfl, h1, h2, h3⟩ | ⟨why, p, hR, rfl⟩
    · have HR : Hid (ROut F pb R (.returned (.pointer (some ⟨b, 0, none⟩))) w4 ∧ Tch (fun i => i = pb) w w4) := ⟨Or.inl ⟨e, r, b, L2, hR, rfl, h1, h2, h3⟩, HT.out.trans' t4⟩
      clear hR h1 h2 h3 t4
      go_wp2_with fail
      go_ret
      exact HR.out
    · have HR : Hid (ROut F pb R (.panicked [{ v := refV why p, recovered := false }]) w4 ∧ Tch (fun i => i = pb) w w4) := ⟨Or.inr ⟨why, p, hR, rfl⟩, HT.out.trans' t4⟩
      clear hR t4
      go_wp2_with fail
      exact ⟨rfl, HR.out⟩
  have nwCase : (t.b.toList == [99, 97, 115, 101]) = false := by
    have h := str_ne hwCase
    rw [show (wCase : ByteArray).toList = [99, 97, 115, 101] from by rw [Lib.toList_data]] at h
    exact h
  rw [if_neg hwCase] at hne ⊢
  have q1 := isReserved_any t.b w0
  rw [Hw0.out] at q1
  by_cases hres : resW.any (fun a => decide (a = t.b)) = true
  · rw [if_pos hres] at hne ⊢
    rw [hres] at q1
    have q2 := refused_any ⟨ck, t.b, t.p⟩ w0
    have HT : Hid _ := HI.out.2.2.2.2.1
    rw [Hw0.out] at q2 HT
    clear hne hch hfn hwNull hwTrue hwFalse hwCase hres
    go_enter Tryz.func247, Tryz.ntmps247
    go_wp2_with fail
    refine q1.mono ?_
    rintro y w1 ⟨rfl, rfl⟩
    clear q1
    go_wp2_with fail
    refine q2.mono ?_
    rintro y w4 ⟨rfl, t4⟩
    clear q2
    have HR : Hid (ROut F pb (.no 110 t.p) (.panicked [{ v := refV 110 t.p, recovered := false }]) w4 ∧ Tch (fun i => i = pb) w w4) := ⟨Or.inr ⟨110, t.p, rfl, rfl⟩, HT.out.trans' (t4.mono (fun _ _ h => h.elim))⟩
    clear t4
    go_wp2_with fail
    exact ⟨rfl, HR.out⟩
  · rw [if_neg hres] at hne ⊢
    rw [Bool.not_eq_true] at hres
    rw [hres] at q1
    obtain ⟨c2, L2, t2, ts2, rfl, rfl, hm2, hc2⟩ := HI.out.2.2.1.ne
    have hk := mt_eq hm2 (a := wOpen) (by decide) (by decide)
    have q2 := takes_any pb c2 L2 wOpen w0 HI.out.1
    rw [isT_cons] at hne ⊢
    by_cases hb : c2.b = wOpen
    · have ht : t2.b = wOpen := hk.1 hb
      rw [if_pos (by simpa using ht)] at hne ⊢
      have h3 := (HI.out.2.2.2.1 t2 (List.mem_cons_self ..)).lt (by rw [ht]; decide)
      rw [decide_eq_true hb] at q2
      simp only [if_pos hb] at q2
      have HK : Hid (Cut L2 ts2 ∧ CFn F 250 n ∧ fnR n t ts2 ≠ .out) := ⟨hc2 h3, hfn, hne⟩
      have HT : Hid _ := HI.out.2.2.2.2.1
      rw [Hw0.out] at q2 HT
      clear hne hch hfn hwNull hwTrue hwFalse hwCase hres hb ht h3 hk hm2 hc2
      go_enter Tryz.func247, Tryz.ntmps247
      go_wp2_with fail
      refine q1.mono ?_
      rintro y w1 ⟨rfl, rfl⟩
      clear q1
      go_wp2_with fail
      refine q2.mono ?_
      rintro y w2 ⟨rfl, p2, t2'⟩
      clear q2
      have q3 := HK.out.2.1 pb ⟨ck, t.b, t.p⟩ L2 t ts2 w2 rfl rfl HK.out.1 (fun x hx => HI.out.2.2.2.1 x (List.mem_cons_of_mem _ hx)) p2 (HI.out.2.1.tch (by rw [Hw0.out]; exact t2')) HK.out.2.2
      have hbx := box_cells w (.int .i64 (ck : Nat)) (.string t.b) (.int .i64 (t.p : Nat)) 111
      have hsz : w.heap.size < (w.alloc (.cells #[.int .i64 (ck : Nat), .string t.b, .int .i64 (t.p : Nat)] 111)).heap.size := by simp
      have hnb : ¬ w.heap.size = pb := by have := HI.out.2.2.2.2.2.2.2.2; omega
      have c0 := (t2'.cell (p := ⟨w.heap.size, 0, none⟩) hsz hnb).trans hbx.1
      have c1 := (t2'.cell (p := ⟨w.heap.size, 1, none⟩) hsz hnb).trans hbx.2.1
      have c3 := (t2'.cell (p := ⟨w.heap.size, 2, none⟩) hsz hnb).trans hbx.2.2
      have HT2 : Hid _ := HT.out.trans' t2'
      clear hbx hsz hnb p2 t2' HT
      go_wp2_with fail
      refine q3.mono ?_
      rintro y w4 ⟨hy, t4⟩
      clear q3 c0 c1 c3
      rcases hy with ⟨e, r, b, L3, hR, rfl, h1, h2, h3⟩ | ⟨why, p, hR, rfl⟩
      · have HR : Hid (ROut F pb (fnR n t ts2) (.returned (.pointer (some ⟨b, 0, none⟩))) w4 ∧ Tch (fun i => i = pb) w w4) := ⟨Or.inl ⟨e, r, b, L3, hR, rfl, h1, h2, h3⟩, HT2.out.trans' t4⟩
        clear hR h1 h2 h3 t4
        go_wp2_with fail
        go_ret
        exact HR.out
      · have HR : Hid (ROut F pb (fnR n t ts2) (.panicked [{ v := refV why p, recovered := false }]) w4 ∧ Tch (fun i => i = pb) w w4) := ⟨Or.inr ⟨why, p, hR, rfl⟩, HT2.out.trans' t4⟩
        clear hR t4
        go_wp2_with fail
        exact ⟨rfl, HR.out⟩
    · have ht : ¬ t2.b = wOpen := fun h => hb (hk.2 h)
      rw [if_neg (by simpa using ht)] at hne ⊢
      rw [decide_eq_false hb] at q2
      simp only [if_neg hb] at q2
      have HT : Hid _ := HI.out.2.2.2.2.1
      rw [Hw0.out] at q2 HT
      clear hne hch hfn hwNull hwTrue hwFalse hwCase hres hb ht hk hm2 hc2
      go_enter Tryz.func247, Tryz.ntmps247
      go_wp2_with fail
      refine q1.mono ?_
      rintro y w1 ⟨rfl, rfl⟩
      clear q1
      go_wp2_with fail
      refine q2.mono ?_
      rintro y w2 ⟨rfl, p2, t2'⟩
      clear q2
      have q3 := clone_any t.b w2 (by have := HI.out.2.2.2.2.2.1; omega)
      have hbx := box_cells w (.int .i64 (ck : Nat)) (.string t.b) (.int .i64 (t.p : Nat)) 111
      have hsz : w.heap.size < (w.alloc (.cells #[.int .i64 (ck : Nat), .string t.b, .int .i64 (t.p : Nat)] 111)).heap.size := by simp
      have hnb : ¬ w.heap.size = pb := by have := HI.out.2.2.2.2.2.2.2.2; omega
      have c1 := (t2'.cell (p := ⟨w.heap.size, 1, none⟩) hsz hnb).trans hbx.2.1
      have HT2 : Hid (Tch (fun i => i = pb) w w2 ∧ PB w2 pb (c2 :: L2)) := ⟨HT.out.trans' t2', p2⟩
      clear hbx hsz hnb p2 t2' HT
      go_wp2_with fail
      refine q3.mono ?_
      rintro y w4 ⟨rfl, t4⟩
      clear q3 c1
      have t5 : Tch (fun _ => False) w2 w4 := below_no t4
      have HP : Hid (PB w4 pb (c2 :: L2) ∧ Tch (fun i => i = pb) w w4) := ⟨HT2.out.2.no t5, HT2.out.1.trans' (t5.mono (fun _ _ h => h.elim))⟩
      clear t4 t5 HT2
      go_wp2_with fail
      go_ret
      have hn := TR.new (F := F) (w := w4) (fun i hi => Nat.lt_of_lt_of_le (Hfb.out i hi) HP.out.2.size) 1 false zV t.b [] none 0 (Nat.le_refl _) (fun h => absurd rfl h)
      have t6 : Tch (fun _ => False) w4 (w4.alloc (.cells #[.int .i64 ((1 : Nat) : Int), .bool false, .int .i64 zV.k, .int .i64 zV.n, .string zV.s, .string t.b, .slice none ([] : List Ex).length 0] 67)) := Tch.alloc _ _ _
      exact ⟨Or.inl ⟨_, _, _, _, rfl, rfl, hn, HP.out.1.no t6, HI.out.2.2.1⟩, HP.out.2.trans' (t6.mono (fun _ _ h => h.elim))⟩
end Go.Proofs.YtmaekkhmiafnmaaGreatDoor
