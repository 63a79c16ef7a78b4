import Derived.Test.YtmaekkhmiafnmaaGreatDoorEP17
import Derived.Test.YtmaekkhmiafnmaaGreatDoorEV5
set_option maxHeartbeats 8000000
set_option maxRecDepth 100000
namespace Go.Proofs.YtmaekkhmiafnmaaGreatDoor
open Go.RowKit Go Go.Lib
variable {F : Nat → Prop}
theorem TRl.blocks {w : World} : ∀ {l : List Ex} {g i : Nat}, TRl w F l g i → ∃ bs : List Nat, bs.length = l.length ∧ (∀ (k : Nat) (e : Ex) (b : Nat), l[k]? = some e → bs[k]? = some b → TR w F e b) ∧ ∀ (k b : Nat), bs[k]? = some b → w.cell? ⟨g, i + k, none⟩ = some (ptV b)
  | [], _, _, _ => ⟨[], rfl, fun k e b h => by simp at h, fun k b h => by simp at h⟩
  | e :: l, g, i, h => by
    unfold TRl TR.TRl at h
    obtain ⟨⟨b, c0, hb⟩, hr⟩ := h
    obtain ⟨bs, h1, h2, h3⟩ := TRl.blocks hr
    refine ⟨b :: bs, by simp [h1], fun k e' b' he hb' => ?_, fun k b' hb' => ?_⟩
    · cases k with
      | zero => simp at he hb'; subst he; subst hb'; exact hb
      | succ k => exact h2 k e' b' (by simpa using he) (by simpa using hb')
    · cases k with
      | zero => simp at hb'; subst hb'; exact c0
      | succ k =>
        have := h3 k b' (by simpa using hb')
        rw [show i + 1 + k = i + (k + 1) by omega] at this
        exact this
theorem PR.appN {w : World} {N : Nat} {ao bo : Option Addr} {c d : Nat} {l m : List Ex} (h : PR w F N ao c l) (hN : N ≤ w.heap.size) (hl : l.length ≤ 1000000000) (hml : m.length ≤ 1000000000) (hm : m ≠ []) (he : LE w (noB F ao l.length c) m bo) :
    ∃ o c' w', (Builtin.append_ #[65, 65] 65 #[.slice ao l.length c, .slice bo m.length d]).run Tryz.prog w = .ok (.slice o ((l.length + m.length : Nat)) c') w' ∧
      PR w' F N o c' (l ++ m) ∧ Tch (fun i => N ≤ i) w w' := by
  obtain ⟨bs, hbl, ho, hF, ht⟩ := h
  obtain ⟨g, i, rfl, hg, hr⟩ := he hm
  obtain ⟨ds, hdl, hdt, hdc⟩ := TRl.blocks hr
  obtain ⟨i0, hi0, hz0, hz1, hz2⟩ := info_parts info_ptr
  obtain ⟨v7, w7, hr7, hown7, hgr7, _, hat7⟩ := run_append_own_at (P := Tryz.prog) w N 65 65 35 i0 _ 1 8 Tryz.underlying65 hi0 hz0 hz1 hz2 rfl (by decide) _ _ _ ho ⟨g, i, none⟩ m.length d (ds.map ptV) (by simp [hdl]) (fun j u hu => by
    rw [List.getElem?_map] at hu
    obtain ⟨b, hb, rfl⟩ := Option.map_eq_some_iff.1 hu
    rw [add_plain]
    exact hdc j b hb) (fun u hu => by obtain ⟨b, _, rfl⟩ := List.mem_map.1 hu; rfl) (by unfold maxLen; omega) (by omega) hN
  obtain ⟨o7, c7, rfl⟩ := row_slice hown7
  have t7 : Tch (fun g => (Value.slice ao l.length c).ownBlock = some g) w w7 := Tch.of_grown hgr7 (fun g e => e)
  have hup : ∀ i, i < w.heap.size → noB F o7 (l.length + m.length) c7 i → noB F ao l.length c i := by
    rintro i hi (h | h)
    · exact Or.inl h
    · rcases hat7 with e | e
      · exact Or.inr (e ▸ h)
      · rw [e] at h
        have : i = w.heap.size := by injection h with h; exact h.symm
        omega
  have htr : ∀ {x : Ex} {d : Nat}, TR w (noB F ao l.length c) x d → TR w7 (noB F o7 (l.length + m.length) c7) x d := fun {x d} hx => by
    have h1 : TR w (fun i => noB F ao l.length c i ∨ w.heap.size ≤ i) x d := TR.mono (fun i hi h => h.resolve_right (by omega)) hx
    exact TR.mono (fun i hi h => (Nat.lt_or_ge i w.heap.size).elim (fun hlt => Or.inl (hup i hlt h)) Or.inr) (TR.tch t7 (fun i hi => Or.inl (Or.inr hi)) h1)
  refine ⟨o7, c7, w7, hr7, ⟨bs ++ ds, by simp [hbl, hdl], by rw [List.length_append, List.map_append]; exact hown7, hF, fun k x d hx hd => ?_⟩, t7.mono (fun g _ e => row_ge ho e)⟩
  rw [List.length_append]
  by_cases hk : k < l.length
  · rw [List.getElem?_append_left hk] at hx
    rw [List.getElem?_append_left (by omega)] at hd
    exact htr (ht k x d hx hd)
  · rw [List.getElem?_append_right (by omega)] at hx
    rw [List.getElem?_append_right (by omega), hbl] at hd
    exact htr (hdt _ x d hx hd)
theorem rd_len : ∀ (n : Nat) (acc : List Ex) (ts : List Tk) (l : List Ex) (r : List Tk), rd n (.list acc) ts = .ok l r → l.length ≤ acc.length + n
  | 0, _, _, _, _, h => by cases h
  | n + 1, acc, ts, l, r, h => by
    unfold rd at h
    cases hx : rd n (.line 1) ts with
    | ok b r1 =>
      rw [hx] at h
      obtain ⟨e, rfl, _⟩ := rd_okE n (.line 1) ts ⟨by omega, by omega⟩ b r1 hx
      simp only [Rs.bind] at h
      split at h
      · have := rd_len n _ _ l r h
        simp at this; omega
      · injection h with h _
        subst h
        simp
    | no w p => rw [hx] at h; cases h
    | out => rw [hx] at h; cases h
theorem tstR_len {n o : Nat} {ts : List Tk} {l : List Ex} {r : List Tk} (h : tstR n o ts = .ok l r) : l ≠ [] ∧ l.length ≤ n + 2 := by
  have h5 : ∀ us, Okx (rd n (.line 5) us) oneE := fun us => rd_okE n (.line 5) us ⟨by omega, by omega⟩
  have hA : Okx (tstR n o ts) (fun l => l ≠ [] ∧ l.length ≤ n + 2) := by
    unfold tstR
    split
    · refine Okx.want fun r2 => Okx.bind (A := fun l => l ≠ [] ∧ l.length ≤ n + 2) (fun l r h => ?_) (fun l r hl => Okx.want fun r4 => Okx.ok hl)
      have h1 := rd_okE n (.list []) r2 trivial l r h trivial
      have h2 := rd_len n [] r2 l r h
      have h3 := h1.2
      simp at h2 h3
      exact ⟨by rintro rfl; simp at h3, by omega⟩
    · split
      · refine (h5 _).bind fun b r2 hb => Okx.want fun r3 => (h5 _).bind fun c r4 hc => Okx.ok ?_
        obtain ⟨b', rfl, _⟩ := hb
        obtain ⟨c', rfl, _⟩ := hc
        exact ⟨by simp, by simp⟩
      · refine fun l r h => ?_
        obtain ⟨b', rfl, _⟩ := h5 _ l r h
        exact ⟨by simp, by simp⟩
  exact hA l r h
theorem tstR_sub {n o : Nat} {ts : List Tk} {l : List Ex} {r : List Tk} (h : tstR n o ts = .ok l r) : Sub r ts := by
  have hA : SubR (tstR n o ts) ts := by
    unfold tstR
    split
    · exact SubR.want (Sub.refl ts) fun r2 h2 => (rd_sub n _ _).bind h2 fun l r3 h3 => SubR.want h3 fun r4 h4 => SubR.ok h4
    · split
      · exact (rd_sub n _ _).bind (Sub.refl ts) fun b r2 h2 => SubR.want h2 fun r3 h3 => (rd_sub n _ _).bind h3 fun c r4 h4 => SubR.ok h4
      · exact rd_sub n _ _
  exact hA l r h
end Go.Proofs.YtmaekkhmiafnmaaGreatDoor
namespace Go.Proofs.YtmaekkhmiafnmaaGreatDoor
open Go.RowKit Go Go.Lib
variable {F : Nat → Prop}
def isR (a : List Ex) (r : List Tk) : Rs := if isT r wNot = true then wantT r.tail wNull fun r2 => .ok [testE 11 true a] r2 else wantT r wNull fun r2 => .ok [testE 11 false a] r2
def inR (n : Nat) (a : List Ex) (no : Bool) (r : List Tk) : Rs := match opIn [12, 13, 14] r with
  | some o => (tstR n o r.tail).bind fun l r2 => .ok [testE o no (a ++ l)] r2
  | none => if no = true then .no 110 (atP r) else .ok a r
theorem bind_assoc {x : Rs} {f g : List Ex → List Tk → Rs} : (x.bind f).bind g = x.bind fun l r => (f l r).bind g := by cases x <;> rfl
theorem wantT_bind {ts : List Tk} {b : ByteArray} {f : List Tk → Rs} {g : List Ex → List Tk → Rs} : (wantT ts b f).bind g = wantT ts b fun r => (f r).bind g := by
  unfold wantT
  split <;> rfl
theorem inR_eq (n : Nat) (a : List Ex) (no : Bool) (x r : List Tk) (p : Nat) (hno : no = true → p = atP x) (hr : no = false → x = r) : (match opIn [12, 13, 14] x with
      | some 12 => wantT x.tail wOpen fun r2 => (rd n (.list []) r2).bind fun l r3 => wantT r3 wShut fun r4 => .ok [testE 12 no (a ++ l)] r4
      | some 13 => (rd n (.line 5) x.tail).bind fun b r2 => wantT r2 wAnd fun r3 => (rd n (.line 5) r3).bind fun c r4 => .ok [testE 13 no (a ++ (b ++ c))] r4
      | some o => (rd n (.line 5) x.tail).bind fun b r2 => .ok [testE o no (a ++ b)] r2
      | none => if no = true then .no 110 p else .ok a r) = inR n a no x := by
  unfold inR
  cases ho : opIn [12, 13, 14] x with
  | none =>
    cases no with
    | true => simp only [if_pos]; rw [hno rfl]
    | false => simp only [Bool.false_eq_true, if_false]; rw [hr rfl]
  | some o =>
    have h1 := (opIn_isT ho).1
    simp only [List.mem_cons, List.not_mem_nil, or_false] at h1
    rcases h1 with rfl | rfl | rfl
    · have e : tstR n 12 x.tail = wantT x.tail wOpen fun r2 => (rd n (.list []) r2).bind fun l r3 => wantT r3 wShut fun r4 => .ok l r4 := rfl
      simp only [e, wantT_bind, bind_assoc]
      rfl
    · have e : tstR n 13 x.tail = (rd n (.line 5) x.tail).bind fun b r2 => wantT r2 wAnd fun r3 => (rd n (.line 5) r3).bind fun c r4 => .ok (b ++ c) r4 := rfl
      simp only [e, wantT_bind, bind_assoc]
      rfl
    · rfl
theorem cmpR_eq (n : Nat) (a : List Ex) (r : List Tk) : cmpR (rd n) a r = match opIn [5, 6, 7, 8, 9, 10] r with
    | some o => (rd n (.line 5) r.tail).bind fun b r1 => .ok [heldE o (a ++ b)] r1
    | none => if isT r wIs = true then isR a r.tail else if isT r wNot = true then inR n a true r.tail else inR n a false r := by
  unfold cmpR
  cases opIn [5, 6, 7, 8, 9, 10] r with
  | some o => rfl
  | none =>
    simp only
    by_cases hi : isT r wIs = true
    · rw [if_pos hi, if_pos hi]; rfl
    · rw [if_neg hi, if_neg hi]
      by_cases hn : isT r wNot = true
      · simp only [hn, if_true]
        exact inR_eq n a true r.tail r (atP r.tail) (fun _ => rfl) (fun h => by cases h)
      · rw [Bool.not_eq_true] at hn
        simp only [hn, Bool.false_eq_true, if_false]
        exact inR_eq n a false r r (atP r.tail) (fun h => by cases h) (fun _ => rfl)
theorem ops_ok (l : List Nat) (h : (l.all fun o => decide (o < 32) && askB (wd o) && decide (wd o ≠ ⟨#[]⟩)) = true) : (∀ o ∈ l, o < 32) ∧ ∀ o ∈ l, askB (wd o) = true ∧ wd o ≠ ⟨#[]⟩ := by
  rw [List.all_eq_true] at h
  refine ⟨fun o ho => ?_, fun o ho => ?_⟩
  · have := h o ho; simp only [Bool.and_eq_true, decide_eq_true_eq] at this; exact this.1.1
  · have := h o ho; simp only [Bool.and_eq_true, decide_eq_true_eq] at this; exact ⟨this.1.2, this.2⟩
theorem compare_line (n : Nat) (hn : n ≤ 1000000) (hj : CL F 179 n 5) (hts : ∀ G : Nat → Prop, CTs G 181 n) : CL F 153 (n + 1) 4 := by
  intro pb L ts w hc hok hp hx hne
  obtain ⟨R, hR⟩ : ∃ R, R = rd (n + 1) (.line 4) ts := ⟨_, rfl⟩
  have HR0 : Hid (R = (rd n (.line 5) ts).bind fun a r => cmpR (rd n) a r) := hR
  rw [← hR] at hne ⊢
  have HI : Hid ((∀ G : Nat → Prop, CTs G 181 n) ∧ CL F 179 n 5 ∧ (∀ m nt ts l r, rd m nt ts = .ok l r → Sub r ts) ∧ HX F w pb ∧ R ≠ .out) := ⟨hts, hj, fun m nt ts l r h => rd_sub m nt ts l r h, hx, hne⟩
  have H0 : Hid (PS1 pb w w L ts) := ⟨hp, hc, hok, Tch.refl _ _⟩
  have hpw := hp.lt
  clear hts hj hx hne hc hp hok hR
  have q1 := HI.out.2.1 pb L ts w H0.out.cut H0.out.ok H0.out.par (HI.out.2.2.2.1.tch H0.out.tch) (bind_out (by rw [← HR0.out]; exact HI.out.2.2.2.2))
  go_enter Tryz.func153, Tryz.ntmps153
  go_wp2_with fail
  refine q1.mono ?_
  rintro y w1 ⟨hy, u1⟩
  clear q1
  obtain ⟨e1, r1, b1, L1, hE1, rfl, h1, h2, h3⟩ | ⟨why, p, hE, rfl⟩ := hy
  rotate_left
  · have HRx : Hid (ROut F pb R (.panicked [{ v := refV why p, recovered := false }]) w1 ∧ Tch (fun i => i = pb) w w1) := ⟨Or.inr ⟨why, p, by rw [HR0.out, hE]; rfl, rfl⟩, H0.out.tch.trans' u1⟩
    clear hE u1
    go_wp2_with fail
    exact ⟨rfl, HRx.out⟩
  have H1 : Hid _ := H0.out.go u1 h2 h3 (HI.out.2.2.1 _ _ _ _ _ hE1)
  have HT1 : Hid (TR w1 F e1 b1) := h1
  have U1 : Hid _ := u1
  have hR1 := HR0.out
  rw [hE1] at hR1
  have hR2 : R = _ := hR1.trans (cmpR_eq n [e1] r1)
  have hpb1 : pb < w1.heap.size := H1.out.par.lt
  clear hE1 h1 h2 h3 u1 hR1
  obtain ⟨v2, hv2⟩ : ∃ v, v = w1.alloc (.cells #[.int .i64 5, .int .i64 6, .int .i64 7, .int .i64 8, .int .i64 9, .int .i64 10] 64) := ⟨_, rfl⟩
  have tv2 : Tch (fun _ => False) w1 v2 := by rw [hv2]; exact Tch.alloc _ _ _
  have bv2 : At v2 w1.heap.size 0 (opsC [5, 6, 7, 8, 9, 10]) := fun j u hu => by
    rw [Nat.zero_add, hv2, blk_cell (alloc_new _ _)]
    rw [← Array.getElem?_toList]; exact hu
  have hA2 := H1.out.al tv2
  have hxv2 := HI.out.2.2.2.1.tch hA2.tch
  have hne2 : pb ≠ w1.heap.size := by have := H1.out.tch.size; omega
  obtain ⟨hop2, hoq2⟩ := ops_ok [5, 6, 7, 8, 9, 10] (by decide)
  obtain ⟨c2, L2, t2, ts2, hL2, hts2, hm2, hc2⟩ := hA2.cut.ne
  have hp2 := hA2.par
  rw [hL2] at hp2
  have q2 := takesOne_any pb c2 L2 [5, 6, 7, 8, 9, 10] w1.heap.size 0 6 v2 hp2 hxv2.shp hop2 bv2 (fun e => by have := hxv2.far; omega) hne2 (by decide)
  unfold TkOut at q2
  rw [opIn_eq hm2 ts2 [5, 6, 7, 8, 9, 10] hoq2, ← hts2] at q2
  have hok2 := hA2.ok t2 (by rw [hts2]; exact List.mem_cons_self ..)
  have hsub2 := Sub.cons t2 ts2
  rw [← hts2] at hsub2
  have hln2 : ([5, 6, 7, 8, 9, 10] : List Nat).length = 6 := rfl
  rw [hln2, hv2] at q2
  have HV2 : Hid (PS1 pb w v2 _ r1 ∧ Tch (fun _ => False) w1 v2 ∧ v2 = w1.alloc (.cells #[.int .i64 5, .int .i64 6, .int .i64 7, .int .i64 8, .int .i64 9, .int .i64 10] 64)) := ⟨hA2, tv2, hv2⟩
  clear hln2 tv2 bv2 hA2 hxv2 hne2 hop2 hv2
  cases ho2 : opIn [5, 6, 7, 8, 9, 10] r1 with
  | some o =>
    rw [ho2] at q2 hR2
    obtain ⟨o1, o2⟩ := opIn_isT ho2
    simp only at q2 hR2
    have htl2 : r1.tail = ts2 := by rw [hts2]; rfl
    rw [htl2] at hR2
    have HR2 : Hid _ := hR2
    have Ho2 : Hid _ := o1
    have HC2 : Hid (Cut L2 ts2 ∧ Sub ts2 _) := ⟨hc2 (hok2.lt (by rw [hts2, isT_cons] at o2; rw [of_decide_eq_true o2]; exact (hoq2 o o1).2)), hsub2⟩
    clear hL2 hts2 hm2 hc2 hp2 hok2 hR2 hsub2 htl2 o1 o2 hoq2 ho2
    go_wp2_with fail
    refine q2.mono ?_
    rintro y w2 ⟨⟨rfl, p2⟩, u2⟩
    clear q2
    rw [← HV2.out.2.2] at u2
    have H2 : Hid _ := HV2.out.1.go u2 p2 HC2.out.1 HC2.out.2
    have U2 : Hid (Tch (fun i => i = pb) w1 w2) := (HV2.out.2.1.mono (fun _ _ h => h.elim)).trans' u2
    clear p2 u2
    have q3 := HI.out.2.1 pb L2 ts2 w2 H2.out.cut H2.out.ok H2.out.par (HI.out.2.2.2.1.tch H2.out.tch) (bind_out (by rw [← HR2.out]; exact HI.out.2.2.2.2))
    go_wp2_with fail
    refine q3.mono ?_
    rintro y w3 ⟨hy, u3⟩
    clear q3
    obtain ⟨e3, r3, b3, L3, hE3, rfl, h1, h2, h3⟩ | ⟨why, p, hE, rfl⟩ := hy
    rotate_left
    · have HRx : Hid (ROut F pb R (.panicked [{ v := refV why p, recovered := false }]) w3 ∧ Tch (fun i => i = pb) w w3) := ⟨Or.inr ⟨why, p, by rw [HR2.out, hE]; rfl, rfl⟩, H2.out.tch.trans' u3⟩
      clear hE u3
      go_wp2_with fail
      exact ⟨rfl, HRx.out⟩
    have H3 : Hid _ := H2.out.go u3 h2 h3 (HI.out.2.2.1 _ _ _ _ _ hE3)
    have HT3 : Hid (TR w3 F e3 b3) := h1
    have U3 : Hid _ := u3
    have hR3 := HR2.out
    rw [hE3] at hR3
    have HR3 : Hid (R = .ok [heldE o [e1, e3]] r3) := hR3
    clear hE3 h1 h2 h3 u3 hR3
    have q4 := held_any F o [e1, e3] (some ⟨w3.heap.size, 0, none⟩) 2 (w3.alloc (.cells #[.pointer (some ⟨b1, 0, none⟩), .pointer (some ⟨b3, 0, none⟩)] 35)) (fun i hi => by have := (HI.out.2.2.2.1.tch H3.out.tch).fb i hi; simp; omega) (Nat.le_refl _) (LE.two (TR.tch (U2.out.trans' U3.out) HI.out.2.2.2.1.tp HT1.out) HT3.out (HI.out.2.2.2.1.tch H3.out.tch).fb _)
    go_wp2_with fail
    refine q4.mono ?_
    rintro y w4 ⟨⟨d, rfl, hd⟩, u4⟩
    clear q4
    have t4 : Tch (fun _ => False) w3 w4 := (Tch.alloc _ _ _).trans' u4
    have HR9 : Hid (ROut F pb R (.returned (.pointer (some ⟨d, 0, none⟩))) w4 ∧ Tch (fun i => i = pb) w w4) := ⟨Or.inl ⟨_, r3, d, L3, HR3.out, rfl, hd, H3.out.par.no t4, H3.out.cut⟩, H3.out.tch.trans' (t4.mono (fun _ _ h => h.elim))⟩
    clear hd u4 t4
    go_wp2_with fail
    go_ret
    exact HR9.out
  | none =>
    rw [ho2] at q2 hR2
    simp only at q2 hR2
    have HR2 : Hid _ := hR2
    have HL2 : Hid _ := hL2
    clear hL2 hts2 hm2 hc2 hp2 hok2 hR2 hsub2 hoq2 ho2
    go_wp2_with fail
    refine q2.mono ?_
    rintro y w2 ⟨⟨rfl, p2⟩, u2⟩
    clear q2
    rw [← HV2.out.2.2] at u2
    rw [← HL2.out] at p2
    have H2 : Hid _ := HV2.out.1.go u2 p2 HV2.out.1.cut (Sub.refl _)
    have U2 : Hid (Tch (fun i => i = pb) w1 w2) := (HV2.out.2.1.mono (fun _ _ h => h.elim)).trans' u2
    clear p2 u2
    obtain ⟨c3, L3, t3, ts3, hL3, hts3, hm3, hc3⟩ := H2.out.cut.ne
    have hp3 := H2.out.par
    rw [hL3] at hp3
    have q3 := takes_any pb c3 L3 wIs _ hp3
    have hok3 := H2.out.ok t3 (by rw [hts3]; exact List.mem_cons_self ..)
    have hsub3 := Sub.cons t3 ts3
    rw [← hts3] at hsub3
    have hk3 := mt_eq hm3 (a := wIs) (by decide) (by decide)
    have hR3 := HR2.out
    by_cases hs3 : c3.b = wIs
    · rw [decide_eq_true hs3] at q3
      simp only [if_pos hs3] at q3
      rw [if_pos (by rw [hts3, isT_cons]; simpa using hk3.1 hs3)] at hR3
      have htl3 : r1.tail = ts3 := by rw [hts3]; rfl
      rw [htl3] at hR3
      have HR3 : Hid _ := hR3
      have HC3 : Hid (Cut L3 ts3 ∧ Sub ts3 _) := ⟨hc3 (hok3.lt (by rw [hk3.1 hs3]; decide)), hsub3⟩
      clear hL3 hts3 hm3 hc3 hp3 hk3 hok3 hR3 hsub3 hs3 htl3
      go_wp2_with fail
      refine q3.mono ?_
      rintro y w3 ⟨rfl, p3, u3⟩
      clear q3
      have H3 : Hid _ := H2.out.go u3 p3 HC3.out.1 HC3.out.2
      have U3 : Hid _ := u3
      clear p3 u3
      obtain ⟨c4, L4, t4, ts4, hL4, hts4, hm4, hc4⟩ := H3.out.cut.ne
      have hp4 := H3.out.par
      rw [hL4] at hp4
      have q4 := takes_any pb c4 L4 wNot _ hp4
      have hok4 := H3.out.ok t4 (by rw [hts4]; exact List.mem_cons_self ..)
      have hsub4 := Sub.cons t4 ts4
      rw [← hts4] at hsub4
      have hk4 := mt_eq hm4 (a := wNot) (by decide) (by decide)
      have hR4 := HR3.out
      unfold isR at hR4
      by_cases hs4 : c4.b = wNot
      · rw [decide_eq_true hs4] at q4
        simp only [if_pos hs4] at q4
        rw [if_pos (by rw [hts4, isT_cons]; simpa using hk4.1 hs4)] at hR4
        have htl4 : ts3.tail = ts4 := by rw [hts4]; rfl
        rw [htl4] at hR4
        have HR4 : Hid _ := hR4
        have HC4 : Hid (Cut L4 ts4 ∧ Sub ts4 _) := ⟨hc4 (hok4.lt (by rw [hk4.1 hs4]; decide)), hsub4⟩
        clear hL4 hts4 hm4 hc4 hp4 hk4 hok4 hR4 hsub4 hs4 htl4
        go_wp2_with fail
        refine q4.mono ?_
        rintro y w4 ⟨rfl, p4, u4⟩
        clear q4
        have H4 : Hid _ := H3.out.go u4 p4 HC4.out.1 HC4.out.2
        have U4 : Hid _ := u4
        clear p4 u4
        have hn := TR.new (F := F) (w := w4.alloc (.cells #[.pointer (some ⟨b1, 0, none⟩)] 35)) (fun i hi => by have := (HI.out.2.2.2.1.tch H4.out.tch).fb i hi; simp; omega) 11 true zV ⟨#[]⟩ [e1] (some ⟨w4.heap.size, 0, none⟩) 1 (Nat.le_refl _) (LE.one (TR.tch ((U2.out.trans' U3.out).trans' U4.out) HI.out.2.2.2.1.tp HT1.out) (HI.out.2.2.2.1.tch H4.out.tch).fb _)
        obtain ⟨w6, hw6⟩ : ∃ w6, w6 = (w4.alloc (.cells #[.pointer (some ⟨b1, 0, none⟩)] 35)).alloc (.cells #[.int .i64 ((11 : Nat) : Int), .bool true, .int .i64 zV.k, .int .i64 zV.n, .string zV.s, .string ⟨#[]⟩, .slice (some ⟨w4.heap.size, 0, none⟩) ([e1] : List Ex).length 1] 67) := ⟨_, rfl⟩
        rw [← hw6] at hn
        have hsz : (w4.alloc (.cells #[.pointer (some ⟨b1, 0, none⟩)] 35)).heap.size = w4.heap.size + 1 := by simp
        rw [hsz] at hn
        have t6 : Tch (fun _ => False) w4 w6 := by rw [hw6]; exact (Tch.alloc _ _ _).allocR _
        have H6 : Hid (PS1 pb w w6 _ _) := H4.out.al t6
        have HT6 : Hid (TR w6 F _ (w4.heap.size + 1)) := hn
        have Hw6 : Hid _ := hw6
        have HR6 : Hid (R = wantT ts4 wNull fun r2 => .ok [testE 11 true [e1]] r2) := HR4.out
        clear hn t6 hsz hw6
        obtain ⟨c7, L7, t7, ts7, hL7, hts7, hm7, hc7⟩ := H6.out.cut.ne
        have hp7 := H6.out.par
        rw [hL7] at hp7
        have q7 := want_any pb c7 L7 wNull _ hp7
        rw [Hw6.out] at q7
        have hok7 := H6.out.ok t7 (by rw [hts7]; exact List.mem_cons_self ..)
        have hsub7 := Sub.cons t7 ts7
        rw [← hts7] at hsub7
        have hk7 := mt_eq hm7 (a := wNull) (by decide) (by decide)
        have hR7 := HR6.out.trans (want_bind hts7)
        by_cases hs7 : c7.b = wNull
        rotate_left
        · simp only [if_neg hs7] at q7
          rw [if_neg (fun h => hs7 (hk7.2 h))] at hR7
          have HE : Hid (c7.p = t7.p ∧ R = .no 110 t7.p) := ⟨hm7.1, hR7⟩
          clear hL7 hts7 hm7 hc7 hp7 hk7 hok7 hR7 hsub7 hs7
          go_wp2_with fail
          refine q7.mono ?_
          rintro y wx ⟨rfl, tx⟩
          clear q7
          have HRx : Hid (ROut F pb R (.panicked [{ v := refV 110 c7.p, recovered := false }]) wx ∧ Tch (fun i => i = pb) w wx) := ⟨Or.inr ⟨110, t7.p, HE.out.2, by rw [HE.out.1]⟩, H6.out.tch.trans' (by rw [Hw6.out]; exact tx)⟩
          clear tx
          go_wp2_with fail
          exact ⟨rfl, HRx.out⟩
        simp only [if_pos hs7] at q7
        rw [if_pos (hk7.1 hs7)] at hR7
        have HR7 : Hid _ := hR7
        have HC7 : Hid (Cut L7 ts7 ∧ Sub ts7 _) := ⟨hc7 (hok7.lt (by rw [hk7.1 hs7]; decide)), hsub7⟩
        clear hL7 hts7 hm7 hc7 hp7 hk7 hok7 hR7 hsub7 hs7
        go_wp2_with fail
        refine q7.mono ?_
        rintro y w7 ⟨⟨rfl, p7⟩, u7⟩
        clear q7
        have H7 : Hid _ := H6.out.go (by rw [Hw6.out]; exact u7) p7 HC7.out.1 HC7.out.2
        have U7 : Hid (Tch (fun i => i = pb) w6 w7) := (show Tch (fun i => i = pb) w6 w7 from by rw [Hw6.out]; exact u7)
        clear p7 u7
        have HR9 : Hid (ROut F pb R (.returned (.pointer (some ⟨w4.heap.size + 1, 0, none⟩))) w7 ∧ Tch (fun i => i = pb) w w7) := ⟨Or.inl ⟨_, ts7, _, L7, HR7.out, rfl, TR.tch U7.out HI.out.2.2.2.1.tp HT6.out, H7.out.par, H7.out.cut⟩, H7.out.tch⟩
        go_wp2_with fail
        go_ret
        exact HR9.out
      · rw [decide_eq_false hs4] at q4
        simp only [if_neg hs4] at q4
        rw [if_neg (by rw [hts4, isT_cons]; simpa using fun h => hs4 (hk4.2 h))] at hR4
        have HR4 : Hid _ := hR4
        have HL4 : Hid _ := hL4
        clear hL4 hts4 hm4 hc4 hp4 hk4 hok4 hR4 hsub4 hs4
        go_wp2_with fail
        refine q4.mono ?_
        rintro y w4 ⟨rfl, p4, u4⟩
        clear q4
        rw [← HL4.out] at p4
        have H4 : Hid _ := H3.out.go u4 p4 H3.out.cut (Sub.refl _)
        have U4 : Hid _ := u4
        clear p4 u4
        have hn := TR.new (F := F) (w := w4.alloc (.cells #[.pointer (some ⟨b1, 0, none⟩)] 35)) (fun i hi => by have := (HI.out.2.2.2.1.tch H4.out.tch).fb i hi; simp; omega) 11 false zV ⟨#[]⟩ [e1] (some ⟨w4.heap.size, 0, none⟩) 1 (Nat.le_refl _) (LE.one (TR.tch ((U2.out.trans' U3.out).trans' U4.out) HI.out.2.2.2.1.tp HT1.out) (HI.out.2.2.2.1.tch H4.out.tch).fb _)
        obtain ⟨w6, hw6⟩ : ∃ w6, w6 = (w4.alloc (.cells #[.pointer (some ⟨b1, 0, none⟩)] 35)).alloc (.cells #[.int .i64 ((11 : Nat) : Int), .bool false, .int .i64 zV.k, .int .i64 zV.n, .string zV.s, .string ⟨#[]⟩, .slice (some ⟨w4.heap.size, 0, none⟩) ([e1] : List Ex).length 1] 67) := ⟨_, rfl⟩
        rw [← hw6] at hn
        have hsz : (w4.alloc (.cells #[.pointer (some ⟨b1, 0, none⟩)] 35)).heap.size = w4.heap.size + 1 := by simp
        rw [hsz] at hn
        have t6 : Tch (fun _ => False) w4 w6 := by rw [hw6]; exact (Tch.alloc _ _ _).allocR _
        have H6 : Hid (PS1 pb w w6 _ _) := H4.out.al t6
        have HT6 : Hid (TR w6 F _ (w4.heap.size + 1)) := hn
        have Hw6 : Hid _ := hw6
        have HR6 : Hid (R = wantT ts3 wNull fun r2 => .ok [testE 11 false [e1]] r2) := HR4.out
        clear hn t6 hsz hw6
        obtain ⟨c7, L7, t7, ts7, hL7, hts7, hm7, hc7⟩ := H6.out.cut.ne
        have hp7 := H6.out.par
        rw [hL7] at hp7
        have q7 := want_any pb c7 L7 wNull _ hp7
        rw [Hw6.out] at q7
        have hok7 := H6.out.ok t7 (by rw [hts7]; exact List.mem_cons_self ..)
        have hsub7 := Sub.cons t7 ts7
        rw [← hts7] at hsub7
        have hk7 := mt_eq hm7 (a := wNull) (by decide) (by decide)
        have hR7 := HR6.out.trans (want_bind hts7)
        by_cases hs7 : c7.b = wNull
        rotate_left
        · simp only [if_neg hs7] at q7
          rw [if_neg (fun h => hs7 (hk7.2 h))] at hR7
          have HE : Hid (c7.p = t7.p ∧ R = .no 110 t7.p) := ⟨hm7.1, hR7⟩
          clear hL7 hts7 hm7 hc7 hp7 hk7 hok7 hR7 hsub7 hs7
          go_wp2_with fail
          refine q7.mono ?_
          rintro y wx ⟨rfl, tx⟩
          clear q7
          have HRx : Hid (ROut F pb R (.panicked [{ v := refV 110 c7.p, recovered := false }]) wx ∧ Tch (fun i => i = pb) w wx) := ⟨Or.inr ⟨110, t7.p, HE.out.2, by rw [HE.out.1]⟩, H6.out.tch.trans' (by rw [Hw6.out]; exact tx)⟩
          clear tx
          go_wp2_with fail
          exact ⟨rfl, HRx.out⟩
        simp only [if_pos hs7] at q7
        rw [if_pos (hk7.1 hs7)] at hR7
        have HR7 : Hid _ := hR7
        have HC7 : Hid (Cut L7 ts7 ∧ Sub ts7 _) := ⟨hc7 (hok7.lt (by rw [hk7.1 hs7]; decide)), hsub7⟩
        clear hL7 hts7 hm7 hc7 hp7 hk7 hok7 hR7 hsub7 hs7
        go_wp2_with fail
        refine q7.mono ?_
        rintro y w7 ⟨⟨rfl, p7⟩, u7⟩
        clear q7
        have H7 : Hid _ := H6.out.go (by rw [Hw6.out]; exact u7) p7 HC7.out.1 HC7.out.2
        have U7 : Hid (Tch (fun i => i = pb) w6 w7) := (show Tch (fun i => i = pb) w6 w7 from by rw [Hw6.out]; exact u7)
        clear p7 u7
        have HR9 : Hid (ROut F pb R (.returned (.pointer (some ⟨w4.heap.size + 1, 0, none⟩))) w7 ∧ Tch (fun i => i = pb) w w7) := ⟨Or.inl ⟨_, ts7, _, L7, HR7.out, rfl, TR.tch U7.out HI.out.2.2.2.1.tp HT6.out, H7.out.par, H7.out.cut⟩, H7.out.tch⟩
        go_wp2_with fail
        go_ret
        exact HR9.out
    · rw [decide_eq_false hs3] at q3
      simp only [if_neg hs3] at q3
      rw [if_neg (by rw [hts3, isT_cons]; simpa using fun h => hs3 (hk3.2 h))] at hR3
      have HR3 : Hid _ := hR3
      have HL3 : Hid _ := hL3
      clear hL3 hts3 hm3 hc3 hp3 hk3 hok3 hR3 hsub3 hs3
      go_wp2_with fail
      refine q3.mono ?_
      rintro y w3 ⟨rfl, p3, u3⟩
      clear q3
      rw [← HL3.out] at p3
      have H3 : Hid _ := H2.out.go u3 p3 H2.out.cut (Sub.refl _)
      have U3 : Hid _ := u3
      clear p3 u3
      obtain ⟨c4, L4, t4, ts4, hL4, hts4, hm4, hc4⟩ := H3.out.cut.ne
      have hp4 := H3.out.par
      rw [hL4] at hp4
      have q4 := takes_any pb c4 L4 wNot _ hp4
      have hok4 := H3.out.ok t4 (by rw [hts4]; exact List.mem_cons_self ..)
      have hsub4 := Sub.cons t4 ts4
      rw [← hts4] at hsub4
      have hk4 := mt_eq hm4 (a := wNot) (by decide) (by decide)
      have hR4 := HR3.out
      by_cases hs4 : c4.b = wNot
      · rw [decide_eq_true hs4] at q4
        simp only [if_pos hs4] at q4
        rw [if_pos (by rw [hts4, isT_cons]; simpa using hk4.1 hs4)] at hR4
        have htl4 : r1.tail = ts4 := by rw [hts4]; rfl
        rw [htl4] at hR4
        have HR4 : Hid _ := hR4
        have HC4 : Hid (Cut L4 ts4 ∧ Sub ts4 _) := ⟨hc4 (hok4.lt (by rw [hk4.1 hs4]; decide)), hsub4⟩
        clear hL4 hts4 hm4 hc4 hp4 hk4 hok4 hR4 hsub4 hs4 htl4
        go_wp2_with fail
        refine q4.mono ?_
        rintro y w4 ⟨rfl, p4, u4⟩
        clear q4
        have H4 : Hid _ := H3.out.go u4 p4 HC4.out.1 HC4.out.2
        have U4 : Hid _ := u4
        clear p4 u4
        have hR6 := HR4.out
        unfold inR at hR6
        obtain ⟨v6, hv6⟩ : ∃ v, v = w4.alloc (.cells #[.int .i64 12, .int .i64 13, .int .i64 14] 64) := ⟨_, rfl⟩
        have tv6 : Tch (fun _ => False) w4 v6 := by rw [hv6]; exact Tch.alloc _ _ _
        have bv6 : At v6 w4.heap.size 0 (opsC [12, 13, 14]) := fun j u hu => by
          rw [Nat.zero_add, hv6, blk_cell (alloc_new _ _)]
          rw [← Array.getElem?_toList]; exact hu
        have hA6 := H4.out.al tv6
        have hxv6 := HI.out.2.2.2.1.tch hA6.tch
        have hne6 : pb ≠ w4.heap.size := by have := H4.out.tch.size; omega
        obtain ⟨hop6, hoq6⟩ := ops_ok [12, 13, 14] (by decide)
        obtain ⟨c6, L6, t6, ts6, hL6, hts6, hm6, hc6⟩ := hA6.cut.ne
        have hp6 := hA6.par
        rw [hL6] at hp6
        have q6 := takesOne_any pb c6 L6 [12, 13, 14] w4.heap.size 0 3 v6 hp6 hxv6.shp hop6 bv6 (fun e => by have := hxv6.far; omega) hne6 (by decide)
        unfold TkOut at q6
        rw [opIn_eq hm6 ts6 [12, 13, 14] hoq6, ← hts6] at q6
        have hok6 := hA6.ok t6 (by rw [hts6]; exact List.mem_cons_self ..)
        have hsub6 := Sub.cons t6 ts6
        rw [← hts6] at hsub6
        have hln6 : ([12, 13, 14] : List Nat).length = 3 := rfl
        rw [hln6, hv6] at q6
        have HV6 : Hid (PS1 pb w v6 _ ts4 ∧ Tch (fun _ => False) w4 v6 ∧ v6 = w4.alloc (.cells #[.int .i64 12, .int .i64 13, .int .i64 14] 64)) := ⟨hA6, tv6, hv6⟩
        clear hln6 tv6 bv6 hA6 hxv6 hne6 hop6 hv6
        cases ho6 : opIn [12, 13, 14] ts4 with
        | some o =>
          rw [ho6] at q6 hR6
          obtain ⟨o1, o2⟩ := opIn_isT ho6
          simp only at q6 hR6
          have htl6 : ts4.tail = ts6 := by rw [hts6]; rfl
          rw [htl6] at hR6
          have HR6 : Hid _ := hR6
          have Ho6 : Hid _ := o1
          have HC6 : Hid (Cut L6 ts6 ∧ Sub ts6 _) := ⟨hc6 (hok6.lt (by rw [hts6, isT_cons] at o2; rw [of_decide_eq_true o2]; exact (hoq6 o o1).2)), hsub6⟩
          clear hL6 hts6 hm6 hc6 hp6 hok6 hR6 hsub6 htl6 o1 o2 hoq6 ho6
          go_wp2_with fail
          refine q6.mono ?_
          rintro y w6 ⟨⟨rfl, p6⟩, u6⟩
          clear q6
          rw [← HV6.out.2.2] at u6
          have H6 : Hid _ := HV6.out.1.go u6 p6 HC6.out.1 HC6.out.2
          have U6 : Hid (Tch (fun i => i = pb) w4 w6) := (HV6.out.2.1.mono (fun _ _ h => h.elim)).trans' u6
          clear p6 u6
          have hLE := PR.one (F := F) (N := w6.heap.size) (TR.tch (((U2.out.trans' U3.out).trans' U4.out).trans' U6.out) HI.out.2.2.2.1.tp HT1.out) (HI.out.2.2.2.1.tch H6.out.tch).fb (Nat.le_refl _)
          obtain ⟨w7, hw7⟩ : ∃ w7, w7 = w6.alloc (.cells #[ptV b1] 35) := ⟨_, rfl⟩
          rw [← hw7] at hLE
          have t7 : Tch (fun _ => False) w6 w7 := by rw [hw7]; exact Tch.alloc _ _ _
          have h7 := H6.out.al t7
          have hN7 : w6.heap.size ≤ w7.heap.size := t7.size
          have q7 := HI.out.1 (noB F (some ⟨w6.heap.size, 0, none⟩) ([e1] : List Ex).length 1) o pb L6 ts6 w7 Ho6.out h7.cut h7.ok h7.par (hLE.hx hN7 (HI.out.2.2.2.1.tch h7.tch)) (bind_out (by rw [← HR6.out]; exact HI.out.2.2.2.2))
          rw [hw7] at q7
          have H7 : Hid (PS1 pb w w7 L6 ts6 ∧ w6.heap.size ≤ w7.heap.size ∧ PR w7 F w6.heap.size (some ⟨w6.heap.size, 0, none⟩) 1 [e1] ∧ w7 = w6.alloc (.cells #[ptV b1] 35)) := ⟨h7, hN7, hLE, hw7⟩
          clear hLE t7 h7 hN7 hw7
          go_wp2_with fail
          refine q7.mono ?_
          rintro y w8 ⟨hy, u8⟩
          clear q7
          rw [← H7.out.2.2.2] at u8
          obtain ⟨l8, r8, ao, cc, L8, hE8, rfl, g1, g2, h2, h3⟩ | ⟨why, p, hE, rfl⟩ := hy
          rotate_left
          · have HRx : Hid (ROut F pb R (.panicked [{ v := refV why p, recovered := false }]) w8 ∧ Tch (fun i => i = pb) w w8) := ⟨Or.inr ⟨why, p, by rw [HR6.out, hE]; rfl, rfl⟩, H7.out.1.tch.trans' u8⟩
            clear hE u8
            go_wp2_with fail
            exact ⟨rfl, HRx.out⟩
          obtain ⟨hl1, hl2⟩ := tstR_len hE8
          have hR8 := HR6.out
          rw [hE8] at hR8
          have HR8 : Hid (R = .ok [testE o true ([e1] ++ l8)] r8) := hR8
          have HS8 : Hid (Sub r8 ts6) := tstR_sub hE8
          have hpr8 := H7.out.2.2.1.tch u8 HI.out.2.2.2.1.tp
          obtain ⟨o9, c9, w9, hr9, hp9, t9⟩ := hpr8.appN (d := cc) (Nat.le_trans H7.out.2.1 u8.size) (by simp) (by omega) hl1 g2
          have h8 := H7.out.1.go u8 h2 h3 HS8.out
          have hpb9 : pb < w6.heap.size := H6.out.par.lt
          have T9 : Tch (fun i => i = pb) w w9 := h8.tch.trans t9 (fun i hi h => by have := H6.out.tch.size; omega)
          have p9 := h8.par.far t9 (fun i hi => by omega)
          have hn9 := TR.new (F := F) (w := w9) (HI.out.2.2.2.1.tch T9).fb o true zV ⟨#[]⟩ ([e1] ++ l8) o9 c9 hp9.cap hp9.le
          have hll : ([e1] ++ l8).length = l8.length + 1 := by simp
          rw [hll] at hn9
          have t10 : Tch (fun _ => False) w9 (w9.alloc (.cells #[.int .i64 (o : Nat), .bool true, .int .i64 zV.k, .int .i64 zV.n, .string zV.s, .string ⟨#[]⟩, .slice o9 ((l8.length + 1 : Nat)) c9] 67)) := Tch.alloc _ _ _
          have HR9 : Hid (ROut F pb R (.returned (.pointer (some ⟨w9.heap.size, 0, none⟩))) (w9.alloc (.cells #[.int .i64 (o : Nat), .bool true, .int .i64 zV.k, .int .i64 zV.n, .string zV.s, .string ⟨#[]⟩, .slice o9 ((l8.length + 1 : Nat)) c9] 67)) ∧ Tch (fun i => i = pb) w (w9.alloc (.cells #[.int .i64 (o : Nat), .bool true, .int .i64 zV.k, .int .i64 zV.n, .string zV.s, .string ⟨#[]⟩, .slice o9 ((l8.length + 1 : Nat)) c9] 67))) := ⟨Or.inl ⟨_, r8, _, L8, HR8.out, rfl, hn9, p9.no t10, h3⟩, T9.trans' (t10.mono (fun _ _ h => h.elim))⟩
          have hl9 : ([e1] : List Ex).length + l8.length = l8.length + 1 := by simp; omega
          rw [hl9] at hr9
          have hl10 : ([e1] : List Ex).length = 1 := rfl
          rw [hl10] at hr9
          clear hE8 hl1 hl2 hR8 hpr8 hp9 t9 h8 hpb9 T9 p9 hn9 hll t10 hl9 hl10 g1 g2 h2 h3 u8
          go_wp2_with (at_builtin; refine wpList_app _ rfl _ _ 65 rfl rfl _ _ rfl rfl hr9 ?_)
          go_ret
          exact HR9.out
        | none =>
          rw [ho6] at q6 hR6
          simp only at q6 hR6
          have HR6 : Hid _ := hR6
          have HL6 : Hid _ := hL6
          clear hL6 hts6 hm6 hc6 hp6 hok6 hR6 hsub6 hoq6 ho6
          go_wp2_with fail
          refine q6.mono ?_
          rintro y w6 ⟨⟨rfl, p6⟩, u6⟩
          clear q6
          rw [← HV6.out.2.2] at u6
          rw [← HL6.out] at p6
          have H6 : Hid _ := HV6.out.1.go u6 p6 HV6.out.1.cut (Sub.refl _)
          have U6 : Hid (Tch (fun i => i = pb) w4 w6) := (HV6.out.2.1.mono (fun _ _ h => h.elim)).trans' u6
          clear p6 u6
          have HR6' : Hid (R = .no 110 (atP ts4)) := HR6.out
          obtain ⟨c7, L7, t7, ts7, hL7, hts7, hm7, hc7⟩ := H6.out.cut.ne
          have hp7 := H6.out.par
          rw [hL7] at hp7
          have q7 := next_any pb c7 L7 _ hp7
          have HE : Hid (c7.p = t7.p ∧ R = .no 110 t7.p) := ⟨hm7.1, by rw [HR6'.out, hts7]; rfl⟩
          clear hL7 hts7 hm7 hc7 hp7
          go_wp2_with fail
          refine q7.mono ?_
          rintro y w7 ⟨rfl, u7⟩
          clear q7
          have q8 := refused_any c7 w7
          have U7 : Hid _ := u7
          clear u7
          go_wp2_with fail
          refine q8.mono ?_
          rintro y w8 ⟨rfl, u8⟩
          clear q8
          have HRx : Hid (ROut F pb R (.panicked [{ v := refV 110 c7.p, recovered := false }]) w8 ∧ Tch (fun i => i = pb) w w8) := ⟨Or.inr ⟨110, t7.p, HE.out.2, by rw [HE.out.1]⟩, H6.out.tch.trans' ((U7.out.trans' u8).mono (fun _ _ h => h.elim))⟩
          clear u8
          go_wp2_with fail
          exact ⟨rfl, HRx.out⟩
      · rw [decide_eq_false hs4] at q4
        simp only [if_neg hs4] at q4
        rw [if_neg (by rw [hts4, isT_cons]; simpa using fun h => hs4 (hk4.2 h))] at hR4
        have HR4 : Hid _ := hR4
        have HL4 : Hid _ := hL4
        clear hL4 hts4 hm4 hc4 hp4 hk4 hok4 hR4 hsub4 hs4
        go_wp2_with fail
        refine q4.mono ?_
        rintro y w4 ⟨rfl, p4, u4⟩
        clear q4
        rw [← HL4.out] at p4
        have H4 : Hid _ := H3.out.go u4 p4 H3.out.cut (Sub.refl _)
        have U4 : Hid _ := u4
        clear p4 u4
        have hR6 := HR4.out
        unfold inR at hR6
        obtain ⟨v6, hv6⟩ : ∃ v, v = w4.alloc (.cells #[.int .i64 12, .int .i64 13, .int .i64 14] 64) := ⟨_, rfl⟩
        have tv6 : Tch (fun _ => False) w4 v6 := by rw [hv6]; exact Tch.alloc _ _ _
        have bv6 : At v6 w4.heap.size 0 (opsC [12, 13, 14]) := fun j u hu => by
          rw [Nat.zero_add, hv6, blk_cell (alloc_new _ _)]
          rw [← Array.getElem?_toList]; exact hu
        have hA6 := H4.out.al tv6
        have hxv6 := HI.out.2.2.2.1.tch hA6.tch
        have hne6 : pb ≠ w4.heap.size := by have := H4.out.tch.size; omega
        obtain ⟨hop6, hoq6⟩ := ops_ok [12, 13, 14] (by decide)
        obtain ⟨c6, L6, t6, ts6, hL6, hts6, hm6, hc6⟩ := hA6.cut.ne
        have hp6 := hA6.par
        rw [hL6] at hp6
        have q6 := takesOne_any pb c6 L6 [12, 13, 14] w4.heap.size 0 3 v6 hp6 hxv6.shp hop6 bv6 (fun e => by have := hxv6.far; omega) hne6 (by decide)
        unfold TkOut at q6
        rw [opIn_eq hm6 ts6 [12, 13, 14] hoq6, ← hts6] at q6
        have hok6 := hA6.ok t6 (by rw [hts6]; exact List.mem_cons_self ..)
        have hsub6 := Sub.cons t6 ts6
        rw [← hts6] at hsub6
        have hln6 : ([12, 13, 14] : List Nat).length = 3 := rfl
        rw [hln6, hv6] at q6
        have HV6 : Hid (PS1 pb w v6 _ r1 ∧ Tch (fun _ => False) w4 v6 ∧ v6 = w4.alloc (.cells #[.int .i64 12, .int .i64 13, .int .i64 14] 64)) := ⟨hA6, tv6, hv6⟩
        clear hln6 tv6 bv6 hA6 hxv6 hne6 hop6 hv6
        cases ho6 : opIn [12, 13, 14] r1 with
        | some o =>
          rw [ho6] at q6 hR6
          obtain ⟨o1, o2⟩ := opIn_isT ho6
          simp only at q6 hR6
          have htl6 : r1.tail = ts6 := by rw [hts6]; rfl
          rw [htl6] at hR6
          have HR6 : Hid _ := hR6
          have Ho6 : Hid _ := o1
          have HC6 : Hid (Cut L6 ts6 ∧ Sub ts6 _) := ⟨hc6 (hok6.lt (by rw [hts6, isT_cons] at o2; rw [of_decide_eq_true o2]; exact (hoq6 o o1).2)), hsub6⟩
          clear hL6 hts6 hm6 hc6 hp6 hok6 hR6 hsub6 htl6 o1 o2 hoq6 ho6
          go_wp2_with fail
          refine q6.mono ?_
          rintro y w6 ⟨⟨rfl, p6⟩, u6⟩
          clear q6
          rw [← HV6.out.2.2] at u6
          have H6 : Hid _ := HV6.out.1.go u6 p6 HC6.out.1 HC6.out.2
          have U6 : Hid (Tch (fun i => i = pb) w4 w6) := (HV6.out.2.1.mono (fun _ _ h => h.elim)).trans' u6
          clear p6 u6
          have hLE := PR.one (F := F) (N := w6.heap.size) (TR.tch (((U2.out.trans' U3.out).trans' U4.out).trans' U6.out) HI.out.2.2.2.1.tp HT1.out) (HI.out.2.2.2.1.tch H6.out.tch).fb (Nat.le_refl _)
          obtain ⟨w7, hw7⟩ : ∃ w7, w7 = w6.alloc (.cells #[ptV b1] 35) := ⟨_, rfl⟩
          rw [← hw7] at hLE
          have t7 : Tch (fun _ => False) w6 w7 := by rw [hw7]; exact Tch.alloc _ _ _
          have h7 := H6.out.al t7
          have hN7 : w6.heap.size ≤ w7.heap.size := t7.size
          have q7 := HI.out.1 (noB F (some ⟨w6.heap.size, 0, none⟩) ([e1] : List Ex).length 1) o pb L6 ts6 w7 Ho6.out h7.cut h7.ok h7.par (hLE.hx hN7 (HI.out.2.2.2.1.tch h7.tch)) (bind_out (by rw [← HR6.out]; exact HI.out.2.2.2.2))
          rw [hw7] at q7
          have H7 : Hid (PS1 pb w w7 L6 ts6 ∧ w6.heap.size ≤ w7.heap.size ∧ PR w7 F w6.heap.size (some ⟨w6.heap.size, 0, none⟩) 1 [e1] ∧ w7 = w6.alloc (.cells #[ptV b1] 35)) := ⟨h7, hN7, hLE, hw7⟩
          clear hLE t7 h7 hN7 hw7
          go_wp2_with fail
          refine q7.mono ?_
          rintro y w8 ⟨hy, u8⟩
          clear q7
          rw [← H7.out.2.2.2] at u8
          obtain ⟨l8, r8, ao, cc, L8, hE8, rfl, g1, g2, h2, h3⟩ | ⟨why, p, hE, rfl⟩ := hy
          rotate_left
          · have HRx : Hid (ROut F pb R (.panicked [{ v := refV why p, recovered := false }]) w8 ∧ Tch (fun i => i = pb) w w8) := ⟨Or.inr ⟨why, p, by rw [HR6.out, hE]; rfl, rfl⟩, H7.out.1.tch.trans' u8⟩
            clear hE u8
            go_wp2_with fail
            exact ⟨rfl, HRx.out⟩
          obtain ⟨hl1, hl2⟩ := tstR_len hE8
          have hR8 := HR6.out
          rw [hE8] at hR8
          have HR8 : Hid (R = .ok [testE o false ([e1] ++ l8)] r8) := hR8
          have HS8 : Hid (Sub r8 ts6) := tstR_sub hE8
          have hpr8 := H7.out.2.2.1.tch u8 HI.out.2.2.2.1.tp
          obtain ⟨o9, c9, w9, hr9, hp9, t9⟩ := hpr8.appN (d := cc) (Nat.le_trans H7.out.2.1 u8.size) (by simp) (by omega) hl1 g2
          have h8 := H7.out.1.go u8 h2 h3 HS8.out
          have hpb9 : pb < w6.heap.size := H6.out.par.lt
          have T9 : Tch (fun i => i = pb) w w9 := h8.tch.trans t9 (fun i hi h => by have := H6.out.tch.size; omega)
          have p9 := h8.par.far t9 (fun i hi => by omega)
          have hn9 := TR.new (F := F) (w := w9) (HI.out.2.2.2.1.tch T9).fb o false zV ⟨#[]⟩ ([e1] ++ l8) o9 c9 hp9.cap hp9.le
          have hll : ([e1] ++ l8).length = l8.length + 1 := by simp
          rw [hll] at hn9
          have t10 : Tch (fun _ => False) w9 (w9.alloc (.cells #[.int .i64 (o : Nat), .bool false, .int .i64 zV.k, .int .i64 zV.n, .string zV.s, .string ⟨#[]⟩, .slice o9 ((l8.length + 1 : Nat)) c9] 67)) := Tch.alloc _ _ _
          have HR9 : Hid (ROut F pb R (.returned (.pointer (some ⟨w9.heap.size, 0, none⟩))) (w9.alloc (.cells #[.int .i64 (o : Nat), .bool false, .int .i64 zV.k, .int .i64 zV.n, .string zV.s, .string ⟨#[]⟩, .slice o9 ((l8.length + 1 : Nat)) c9] 67)) ∧ Tch (fun i => i = pb) w (w9.alloc (.cells #[.int .i64 (o : Nat), .bool false, .int .i64 zV.k, .int .i64 zV.n, .string zV.s, .string ⟨#[]⟩, .slice o9 ((l8.length + 1 : Nat)) c9] 67))) := ⟨Or.inl ⟨_, r8, _, L8, HR8.out, rfl, hn9, p9.no t10, h3⟩, T9.trans' (t10.mono (fun _ _ h => h.elim))⟩
          have hl9 : ([e1] : List Ex).length + l8.length = l8.length + 1 := by simp; omega
          rw [hl9] at hr9
          have hl10 : ([e1] : List Ex).length = 1 := rfl
          rw [hl10] at hr9
          clear hE8 hl1 hl2 hR8 hpr8 hp9 t9 h8 hpb9 T9 p9 hn9 hll t10 hl9 hl10 g1 g2 h2 h3 u8
          go_wp2_with (at_builtin; refine wpList_app _ rfl _ _ 65 rfl rfl _ _ rfl rfl hr9 ?_)
          go_ret
          exact HR9.out
        | none =>
          rw [ho6] at q6 hR6
          simp only at q6 hR6
          have HR6 : Hid _ := hR6
          have HL6 : Hid _ := hL6
          clear hL6 hts6 hm6 hc6 hp6 hok6 hR6 hsub6 hoq6 ho6
          go_wp2_with fail
          refine q6.mono ?_
          rintro y w6 ⟨⟨rfl, p6⟩, u6⟩
          clear q6
          rw [← HV6.out.2.2] at u6
          rw [← HL6.out] at p6
          have H6 : Hid _ := HV6.out.1.go u6 p6 HV6.out.1.cut (Sub.refl _)
          have U6 : Hid (Tch (fun i => i = pb) w4 w6) := (HV6.out.2.1.mono (fun _ _ h => h.elim)).trans' u6
          clear p6 u6
          have HR6' : Hid (R = .ok [e1] r1) := HR6.out
          have HR9 : Hid (ROut F pb R (.returned (.pointer (some ⟨b1, 0, none⟩))) w6 ∧ Tch (fun i => i = pb) w w6) := ⟨Or.inl ⟨_, r1, b1, _, HR6'.out, rfl, TR.tch (((U2.out.trans' U3.out).trans' U4.out).trans' U6.out) HI.out.2.2.2.1.tp HT1.out, H6.out.par, H6.out.cut⟩, H6.out.tch⟩
          go_wp2_with fail
          go_ret
          exact HR9.out
end Go.Proofs.YtmaekkhmiafnmaaGreatDoor
