import Derived.Test.YtdbaafigmfclcaaTPutL
/- put: a node with kids. -/
namespace Go.Proofs.Ytdbaafigmfclcaa
open Go.RowKit Go

/-- A put within a kid, in the whole. -/
theorem PutRel.kid {h : Nat} {A B : List It} {ka kb : List (Nd It h)} {kk k' : Nd It h} {k : ByteArray} {v old : GV} {th : Bool} (hr : PutRel k v (kk.flat h) (k'.flat h) old th) (hka : ka.length = A.length) (hA : ∀ e ∈ A, Lo k e) (hB : ∀ e ∈ B, Hi k e) (hp : Sorted (Nd.flat (h + 1) ((A ++ B, ka ++ kk :: kb) : Nd It (h + 1)))) : PutRel k v (Nd.flat (h + 1) ((A ++ B, ka ++ kk :: kb) : Nd It (h + 1))) (Nd.flat (h + 1) ((A ++ B, ka ++ k' :: kb) : Nd It (h + 1))) old th := by
  obtain ⟨h1, -, h3⟩ := kid_ins KL (Lo k) (Hi k) (fun e e' => Lo.of) (fun e e' => Hi.of) h A B ka kb kk k' hka hA hB hp
  rcases hr with ⟨e, hr⟩ | ⟨e, e2, hr⟩
  · exact Or.inl ⟨e, h3 _ _ hr⟩
  · exact Or.inr ⟨e, e2, h1 _ hr⟩
theorem kid_sorted {h : Nat} {A B : List It} {ka kb : List (Nd It h)} {kk : Nd It h} (hka : ka.length = A.length) (hp : Sorted (Nd.flat (h + 1) ((A ++ B, ka ++ kk :: kb) : Nd It (h + 1)))) : Sorted (kk.flat h) := by
  rw [kid_mid h A B ka kb kk hka] at hp
  exact (List.pairwise_append.1 (List.pairwise_append.1 hp).2.1).1
theorem kid_size {h : Nat} (A B : List It) (ka kb : List (Nd It h)) (kk : Nd It h) (hka : ka.length = A.length) : (kk.flat h).length ≤ (Nd.flat (h + 1) ((A ++ B, ka ++ kk :: kb) : Nd It (h + 1))).length := by
  rw [kid_mid h A B ka kb kk hka]
  simp only [List.length_append]
  omega
theorem node_at {h : Nat} (t : Nd It (h + 1)) (i : Nat) (hi : i ≤ t.1.length) (he : t.2.length = t.1.length + 1) : ∃ (ka kb : List (Nd It h)) (kk : Nd It h), t = ((t.1.take i ++ t.1.drop i, ka ++ kk :: kb) : Nd It (h + 1)) ∧ ka.length = i ∧ kb.length = t.1.length - i ∧ (∀ x ∈ ka, x ∈ t.2) ∧ (∀ x ∈ kb, x ∈ t.2) ∧ kk ∈ t.2 := by
  have hlt : i < t.2.length := by omega
  refine ⟨t.2.take i, t.2.drop (i + 1), t.2[i], Prod.ext (List.take_append_drop i t.1).symm ?_, by rw [List.length_take]; omega, by rw [List.length_drop]; omega, fun x hx => List.mem_of_mem_take hx, fun x hx => List.mem_of_mem_drop hx, List.getElem_mem hlt⟩
  show t.2 = t.2.take i ++ t.2[i] :: t.2.drop (i + 1)
  rw [← List.drop_eq_getElem_cons hlt, List.take_append_drop]
set_option maxHeartbeats 4000000 in
set_option maxRecDepth 100000 in
theorem put_inner (h : Nat) (w : World) (p : Nat) (k : ByteArray) (v : GV) (t : Nd It (h + 1)) (F : List Nat) (hN : NW (h + 1) w p t F) (hn : Nod F) (hs : t.sub) (hl : t.its.length ≤ 15) (hso : Sorted (t.flat (h + 1))) (hb : (t.flat (h + 1)).length < 1000000000000000000)
    (IH : ∀ (w : World) (p : Nat) (t : Nd It h) (F : List Nat), NW h w p t F → Nod F → t.sub → t.its.length ≤ 15 → Sorted (t.flat h) → (t.flat h).length < 1000000000000000000 → Calls Try.prog 29 #[pv p, .string k, ev v] w (fun x w' => ∃ (t' : Nd It h) (F' : List Nat) (old : GV) (th : Bool), x = .returned (.tuple #[ev old, .bool th]) ∧ NW h w' p t' F' ∧ Fits w.heap.size F F' ∧ Tch (fun i => i ∈ F) w w' ∧ t'.sub ∧ t.its.length ≤ t'.its.length ∧ t'.its.length ≤ 16 ∧ PutRel k v (t.flat h) (t'.flat h) old th)) :
    Calls Try.prog 29 #[pv p, .string k, ev v] w (fun x w' => ∃ (t' : Nd It (h + 1)) (F' : List Nat) (old : GV) (th : Bool), x = .returned (.tuple #[ev old, .bool th]) ∧ NW (h + 1) w' p t' F' ∧ Fits w.heap.size F F' ∧ Tch (fun i => i ∈ F) w w' ∧ t'.sub ∧ t.its.length ≤ t'.its.length ∧ t'.its.length ≤ 16 ∧ PutRel k v (t.flat (h + 1)) (t'.flat (h + 1)) old th) := by
  have HN : Hid (NW (h + 1) w p t F) := hN
  have HNod : Hid (Nod F) := hn
  have Hsub : Hid (Nd.sub (h + 1) t) := hs
  have Hl15 : Hid (t.its.length ≤ 15) := hl
  have Hso : Hid (Sorted (t.flat (h + 1))) := hso
  have Hb : Hid ((t.flat (h + 1)).length < 1000000000000000000) := hb
  obtain ⟨iv, kv, qs, FF, hP, hK, hFe⟩ := NW_iff.1 hN
  have he := sub_even (h + 1) t hs
  have q := find_any p t.its k iv kv _ w hP.nd hP.its (its_sorted t he hso) (by omega)
  have HP : Hid (FN w p iv kv t.its qs (Nd.flat (h + 1) t).length) := hP
  have hqs : qs.isEmpty = false := by
    obtain ⟨ks, e1, e2, _, _⟩ := hK
    have h9 : t.2.length = t.1.length + 1 := he
    rw [e2, List.length_map] at h9
    rw [e1]
    cases ks with
    | nil => simp at h9
    | cons x ks => rfl
  obtain ⟨s, hsz⟩ : ∃ s : Int, s = ((Nd.flat (h + 1) t).length : Int) := ⟨_, rfl⟩
  have Hs : Hid (s = ((Nd.flat (h + 1) t).length : Int)) := hsz
  have HIH : Hid _ := IH
  clear hP hK hFe hsz IH
  clear hN hn hs hl hso hb he
  go_enter Try.func29, Try.ntmps29
  go_wp2_with fail
  refine q.mono ?_
  rintro x w1 ⟨⟨i, th, rfl, hF⟩, t1⟩
  clear q
  cases th with
  | true =>
    obtain ⟨g, c, old, c0, hi, c1, f1, t', r1, r2, r3, r4, r5⟩ := put_there (v := v) HN.out HNod.out Hsub.out Hl15.out Hso.out hF t1
    have hiI : (i : Int) < t.its.length := by omega
    obtain ⟨n, hn⟩ : ∃ n, n = t.its.length := ⟨_, rfl⟩
    rw [← hn] at c0 hiI
    obtain ⟨w2, hw2⟩ : ∃ w2, w2 = w1.setCell ⟨g, i * 2 + 1, none⟩ (ev v) := ⟨_, rfl⟩
    rw [← hw2] at r1 r2
    have Hr : Hid (NW (h + 1) w2 p t' F ∧ Tch (fun i => i ∈ F) w w2 ∧ t'.sub ∧ t'.its.length = t.its.length ∧ PutRel k v (t.flat (h + 1)) (t'.flat (h + 1)) old true) := ⟨r1, r2, r3, r4, r5⟩
    have Hw2 : Hid _ := hw2
    clear r1 r2 r3 r4 r5 hF t1 hn hi hw2
    go_wp2_with fail
    go_region
    have hw := Hw2.out
    rw [← hw]
    clear hw c0 c1 f1
    go_wp2_with fail
    go_ret2
    obtain ⟨r1, r2, r3, r4, r5⟩ := Hr.out
    exact ⟨t', F, old, true, rfl, r1.tch (show Tch (fun _ => False) w2 w2.drew from (Tch.refl _ _).drew) (fun _ _ h => h), Fits.refl HNod.out, r2.drew, r3, by omega, by have := Hl15.out; omega, r5⟩
  | false =>
    have hP1 := HP.out.tch t1 (fun _ _ h => h)
    have q := leaf_any p iv kv t.its qs _ w1 hP1
    rw [hqs] at q
    obtain ⟨ka, kb, kk, et, hka, hkb, hma, hmb, hmk⟩ := node_at t i hF.le Hsub.out.1
    have hok := Hsub.out.2
    obtain ⟨A, hA⟩ : ∃ A, A = t.1.take i := ⟨_, rfl⟩
    obtain ⟨B, hB⟩ : ∃ B, B = t.1.drop i := ⟨_, rfl⟩
    rw [← hA, ← hB] at et
    have hAl : A.length = i := by rw [hA, List.length_take]; have := hF.le; show min i t.1.length = i; have : i ≤ t.1.length := hF.le; omega
    have hBl : B.length = t.1.length - i := by rw [hB, List.length_drop]
    have hAlo : ∀ e ∈ A, Lo k e := fun e he => hF.lo e (by rw [hA] at he; exact he)
    have hBhi : ∀ e ∈ B, Hi k e := fun e he => hF.hi rfl e (by rw [hB] at he; exact he)
    have hN1 : NWX h w1 p (A ++ B) (ka ++ kk :: kb) F s := by
      have h0 : NW (h + 1) w1 p t F := HN.out.tch t1 (fun _ _ h => h)
      rw [Hs.out]
      rw [et] at h0 ⊢
      exact NW_X.1 h0
    obtain ⟨qk, Fk, kg, kd, d1, k0, hq, hnk, -, -, -, -, hstep⟩ := hN1.kid HNod.out
    have hkk := hok kk hmk
    have hkks := (ok_iff h kk).1 hkk.1
    have hso2 := Hso.out
    have hb2 := Hb.out
    rw [et] at hso2 hb2
    have qp := HIH.out w1 qk kk Fk hq hnk hkks.2 hkks.1 (kid_sorted (hka.trans hAl.symm) hso2) (Nat.lt_of_le_of_lt (kid_size A B ka kb kk (hka.trans hAl.symm)) hb2)
    have hmp : (ka ++ kk :: kb).length = t.1.length + 1 := by simp only [List.length_append, List.length_cons]; have : i ≤ t.1.length := hF.le; omega
    have hl15 : t.1.length ≤ 15 := Hl15.out
    have hile : i ≤ t.1.length := hF.le
    obtain ⟨n, hn⟩ : ∃ n, n = t.1.length := ⟨_, rfl⟩
    rw [hmp, ← hn] at d1
    rw [hka] at k0
    rw [← hn] at hl15 hile hBl hkb
    have hiI : (i : Int) < (n : Int) + 1 := by omega
    have Het : Hid (t = ((A ++ B, ka ++ kk :: kb) : Nd It (h + 1))) := et
    have Hn : Hid (n = t.1.length) := hn
    have Hlo : Hid (∀ e ∈ A, Lo k e) := hAlo
    have Hhi : Hid (∀ e ∈ B, Hi k e) := hBhi
    have Hka : Hid (∀ x ∈ ka, x.ok ∧ 7 ≤ x.its.length) := fun x hx => hok x (hma x hx)
    have Hkb : Hid (∀ x ∈ kb, x.ok ∧ 7 ≤ x.its.length) := fun x hx => hok x (hmb x hx)
    have Hkk : Hid (7 ≤ kk.its.length) := hkk.2
    have Hstep : Hid (∀ (w' : World) (k' : Nd It h) (Fk' : List Nat), NW h w' qk k' Fk' → Fits w1.heap.size Fk Fk' → Tch (fun i => i ∈ Fk) w1 w' → ∃ F', NWX h w' p (A ++ B) (ka ++ k' :: kb) F' s ∧ Fits w1.heap.size F F' ∧ Tch (fun i => i ∈ F) w1 w') := hstep
    have T01 : Hid (Tch (fun _ => False) w w1) := t1
    have Hso2 : Hid (Sorted (Nd.flat (h + 1) ((A ++ B, ka ++ kk :: kb) : Nd It (h + 1)))) := hso2
    clear hN1 hstep hq hnk hok hkk hkks hso2 hb2 et hA hB hAlo hBhi hF t1 hn hmp hmk hma hmb hP1 HIH
    go_wp2_with fail
    refine q.mono ?_
    rintro x w1' ⟨rfl, hw1⟩
    subst hw1
    clear q
    go_wp2_with fail
    clear d1 k0
    refine qp.mono ?_
    rintro x w2 ⟨k', Fk', old', th', rfl, nk', fk', tk', sk', lk', lk'', pr'⟩
    obtain ⟨F2, N2, fi2, tc2⟩ := Hstep.out w2 k' Fk' nk' fk' tk'
    obtain ⟨kg2, kd2, po2, pc2, d1, -, hlook⟩ := N2.look (by simp only [List.length_append, List.length_cons]; omega)
    obtain ⟨q2, qo2, qc2, k0, e0⟩ := hlook i k' (by rw [List.getElem?_append_right (by omega), hka, Nat.sub_self]; rfl)
    have hmp2 : (ka ++ k' :: kb).length = n + 1 := by simp only [List.length_append, List.length_cons]; omega
    rw [hmp2] at d1
    have Hpr : Hid (PutRel k v (Nd.flat (h + 1) t) (Nd.flat (h + 1) ((A ++ B, ka ++ k' :: kb) : Nd It (h + 1))) old' th') := by
      have := PutRel.kid pr' (hka.trans hAl.symm) Hlo.out Hhi.out Hso2.out
      rw [← Het.out] at this
      exact this
    have N2' : Hid (NWX h w2 p (A ++ B) (ka ++ k' :: kb) F2 s) := N2
    have X2 : Hid (Fits w.heap.size F F2 ∧ Tch (fun i => i ∈ F) w w2) := ⟨fun b => by
      have := fi2 b
      have h4 := T01.out.size
      exact ⟨fun hb => this.1 (by omega), fun hb => fi2.nod HNod.out b⟩, (T01.out.mono (fun _ _ h => h.elim)).trans' tc2⟩
    have Sk : Hid (k'.sub ∧ kk.its.length ≤ k'.its.length) := ⟨sk', lk'⟩
    obtain ⟨nk, hnk⟩ : ∃ nk, nk = k'.its.length := ⟨_, rfl⟩
    rw [← hnk] at e0
    have Hnk : Hid (nk = k'.its.length) := hnk
    have hnk16 : nk ≤ 16 := by omega
    clear N2 fi2 tc2 nk' fk' tk' pr' hlook hmp2 qp hnk lk' lk'' sk' Hstep
    rcases Nat.lt_or_ge 15 nk with h16 | h16
    · have h16i : (15 : Int) < nk := by omega
      have hk16 : k'.its.length = 16 := by have := Hnk.out; omega
      obtain ⟨m, hm⟩ : ∃ m, k'.its[7]? = some m := ⟨k'.its[7]'(by omega), List.getElem?_eq_getElem (by omega)⟩
      have hke := sub_even h k' Sk.out.1
      have hlen2 : (Nd.flat (h + 1) ((A ++ B, ka ++ k' :: kb) : Nd It (h + 1))).length ≤ (Nd.flat (h + 1) t).length + 1 := by
        rcases Hpr.out with ⟨_, hi⟩ | ⟨_, _, hi⟩
        · have := hi.len; omega
        · have := hi.len; omega
      have qs := split_x h w2 p s A B ka kb k' m F2 N2'.out (X2.out.1.nod HNod.out) (hka.trans hAl.symm) (by omega) (by omega) hk16 hke hm (Nat.le_trans (kid_size A B ka kb k' (hka.trans hAl.symm)) (by have := Hb.out; omega))
      rw [hAl] at qs
      go_wp2_with fail
      clear d1 k0 e0
      refine qs.mono ?_
      rintro x w3 ⟨rfl, F3, N3, fi3, tc3⟩
      obtain ⟨L3, hL3⟩ : ∃ L3, L3 = A ++ m :: B := ⟨_, rfl⟩
      obtain ⟨ts3, hts3⟩ : ∃ ts3, ts3 = ka ++ Nd.lo h 7 k' :: Nd.hi h 7 k' :: kb := ⟨_, rfl⟩
      have hfl : Nd.flat (h + 1) ((L3, ts3) : Nd It (h + 1)) = Nd.flat (h + 1) ((A ++ B, ka ++ k' :: kb) : Nd It (h + 1)) := by
        rw [hL3, hts3, glue_in h A B ka kb _ m _ (hka.trans hAl.symm) (lo_even h 7 k' hke (by omega)), glue_cut h 7 k' m hm]
      have hck := cut_ok h k' Sk.out.1 hk16
      have hsub3 : Nd.sub (h + 1) ((L3, ts3) : Nd It (h + 1)) := by
        rw [hL3, hts3]
        exact cut1 (hka.trans hAl.symm) (by omega) Hka.out Hkb.out ⟨hck.1, by omega⟩ ⟨hck.2.2.1, by omega⟩
      have hn3 : L3.length = n + 1 := by rw [hL3]; simp only [List.length_append, List.length_cons]; omega
      rw [← hL3, ← hts3] at N3
      replace N3 : Hid (NWX h w3 p L3 ts3 F3 s) := N3
      have X3 : Hid (Fits w.heap.size F F3 ∧ Tch (fun i => i ∈ F) w w3 ∧ Nd.sub (h + 1) ((L3, ts3) : Nd It (h + 1)) ∧ t.its.length ≤ L3.length ∧ L3.length ≤ 16 ∧ PutRel k v (Nd.flat (h + 1) t) (Nd.flat (h + 1) ((L3, ts3) : Nd It (h + 1))) old' th') := ⟨X2.out.1.trans fi3 X2.out.2.size, X2.out.2.trans tc3 (fun i hi hm => by
        rcases X2.out.1.old hm with h6 | h6
        · exact h6
        · omega), hsub3, by show t.1.length ≤ L3.length; have := Hn.out; omega, by show L3.length ≤ 16; omega, by rw [hfl]; exact Hpr.out⟩
      clear qs fi3 tc3 hL3 hts3 hfl hck hsub3 hn3 hlen2
      cases th' with
      | true =>
        go_wp2_with fail
        go_ret2
        refine ⟨((L3, ts3) : Nd It (h + 1)), F3, old', true, rfl, ?_, X3.out.1, X3.out.2.1, X3.out.2.2.1, X3.out.2.2.2.1, X3.out.2.2.2.2.1, X3.out.2.2.2.2.2⟩
        rw [NW_X]
        have e : ((Nd.flat (h + 1) ((L3, ts3) : Nd It (h + 1))).length : Int) = s := by
          rcases X3.out.2.2.2.2.2 with ⟨_, hi⟩ | ⟨e, _⟩
          · have := hi.len; have := Hs.out; omega
          · cases e
        rw [e]
        exact N3.out
      | false =>
        obtain ⟨c2, f2⟩ := N3.out.cells
        have hsw : IntKind.i64.wrap (s + 1) = s + 1 := by rw [IntKind.wrap_i64]; have := Hs.out; have := Hb.out; omega
        have hsb : s < 1000000000000000000 := by have := Hs.out; have := Hb.out; omega
        have hsb0 : 0 ≤ s := by have := Hs.out; omega
        go_wp2_with fail
        go_ret2
        obtain ⟨m1, m2⟩ := N3.out.setSz (X3.out.1.nod HNod.out) (s + 1)
        refine ⟨((L3, ts3) : Nd It (h + 1)), F3, old', false, rfl, ?_, X3.out.1, X3.out.2.1.trans m2 (fun i hi hm => ?_), X3.out.2.2.1, X3.out.2.2.2.1, X3.out.2.2.2.2.1, X3.out.2.2.2.2.2⟩
        · rw [NW_X]
          have e : ((Nd.flat (h + 1) ((L3, ts3) : Nd It (h + 1))).length : Int) = s + 1 := by
            rcases X3.out.2.2.2.2.2 with ⟨e, _⟩ | ⟨_, _, hi⟩
            · cases e
            · have := hi.len; have := Hs.out; omega
          rw [e]
          exact m1
        · rcases X3.out.1.old hm with h6 | h6
          · exact h6
          · omega
    · have h16i : ¬ (15 : Int) < nk := by omega
      obtain ⟨w3, hw3⟩ : ∃ w3, w3 = w2 := ⟨_, rfl⟩
      obtain ⟨L3, hL3⟩ : ∃ L3, L3 = A ++ B := ⟨_, rfl⟩
      obtain ⟨ts3, hts3⟩ : ∃ ts3, ts3 = ka ++ k' :: kb := ⟨_, rfl⟩
      have hsub3 : Nd.sub (h + 1) ((A ++ B, ka ++ k' :: kb) : Nd It (h + 1)) := cut0 (hka.trans hAl.symm) (by omega) Hka.out Hkb.out ⟨(ok_iff h k').2 ⟨by have := Hnk.out; omega, Sk.out.1⟩, by have := Hkk.out; have := Sk.out.2; omega⟩
      have hn3 : (A ++ B).length = n := by simp only [List.length_append]; omega
      rw [← hL3, ← hts3] at hsub3
      rw [← hL3] at hn3
      have N3 := N2'.out
      have P3 := Hpr.out
      rw [← hL3, ← hts3] at N3 P3
      replace N3 : Hid (NWX h w2 p L3 ts3 F2 s) := N3
      obtain ⟨F3, hF3⟩ : ∃ F3, F3 = F2 := ⟨_, rfl⟩
      rw [← hF3] at N3
      have X3 : Hid (Fits w.heap.size F F3 ∧ Tch (fun i => i ∈ F) w w2 ∧ Nd.sub (h + 1) ((L3, ts3) : Nd It (h + 1)) ∧ t.its.length ≤ L3.length ∧ L3.length ≤ 16 ∧ PutRel k v (Nd.flat (h + 1) t) (Nd.flat (h + 1) ((L3, ts3) : Nd It (h + 1))) old' th') := ⟨by rw [hF3]; exact X2.out.1, X2.out.2, hsub3, by show t.1.length ≤ L3.length; have := Hn.out; omega, by show L3.length ≤ 16; omega, P3⟩
      clear hw3 w3 hL3 hts3 hsub3 hn3 P3 hF3
      cases th' with
      | true =>
        go_wp2_with fail
        go_ret2
        refine ⟨((L3, ts3) : Nd It (h + 1)), F3, old', true, rfl, ?_, X3.out.1, X3.out.2.1, X3.out.2.2.1, X3.out.2.2.2.1, X3.out.2.2.2.2.1, X3.out.2.2.2.2.2⟩
        rw [NW_X]
        have e : ((Nd.flat (h + 1) ((L3, ts3) : Nd It (h + 1))).length : Int) = s := by
          rcases X3.out.2.2.2.2.2 with ⟨_, hi⟩ | ⟨e, _⟩
          · have := hi.len; have := Hs.out; omega
          · cases e
        rw [e]
        exact N3.out
      | false =>
        obtain ⟨c2, f2⟩ := N3.out.cells
        have hsw : IntKind.i64.wrap (s + 1) = s + 1 := by rw [IntKind.wrap_i64]; have := Hs.out; have := Hb.out; omega
        have hsb : s < 1000000000000000000 := by have := Hs.out; have := Hb.out; omega
        have hsb0 : 0 ≤ s := by have := Hs.out; omega
        go_wp2_with fail
        go_ret2
        obtain ⟨m1, m2⟩ := N3.out.setSz (X3.out.1.nod HNod.out) (s + 1)
        refine ⟨((L3, ts3) : Nd It (h + 1)), F3, old', false, rfl, ?_, X3.out.1, X3.out.2.1.trans m2 (fun i hi hm => ?_), X3.out.2.2.1, X3.out.2.2.2.1, X3.out.2.2.2.2.1, X3.out.2.2.2.2.2⟩
        · rw [NW_X]
          have e : ((Nd.flat (h + 1) ((L3, ts3) : Nd It (h + 1))).length : Int) = s + 1 := by
            rcases X3.out.2.2.2.2.2 with ⟨e, _⟩ | ⟨_, _, hi⟩
            · cases e
            · have := hi.len; have := Hs.out; omega
          rw [e]
          exact m1
        · rcases X3.out.1.old hm with h6 | h6
          · exact h6
          · omega
theorem put_any : ∀ (h : Nat) (w : World) (p : Nat) (k : ByteArray) (v : GV) (t : Nd It h) (F : List Nat), NW h w p t F → Nod F → t.sub → t.its.length ≤ 15 → Sorted (t.flat h) → (t.flat h).length < 1000000000000000000 → Calls Try.prog 29 #[pv p, .string k, ev v] w (fun x w' => ∃ (t' : Nd It h) (F' : List Nat) (old : GV) (th : Bool), x = .returned (.tuple #[ev old, .bool th]) ∧ NW h w' p t' F' ∧ Fits w.heap.size F F' ∧ Tch (fun i => i ∈ F) w w' ∧ t'.sub ∧ t.its.length ≤ t'.its.length ∧ t'.its.length ≤ 16 ∧ PutRel k v (t.flat h) (t'.flat h) old th)
  | 0, w, p, k, v, t, F, a, b, c, d, e, f => put_leaf w p k v t F a b c d e f
  | h + 1, w, p, k, v, t, F, a, b, c, d, e, f => put_inner h w p k v t F a b c d e f (fun w p t F => put_any h w p k v t F)
end Go.Proofs.Ytdbaafigmfclcaa
