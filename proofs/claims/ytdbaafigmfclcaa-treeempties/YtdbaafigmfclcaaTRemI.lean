import Derived.Test.YtdbaafigmfclcaaTRemL
/- remove of a node with kids. -/
namespace Go.Proofs.Ytdbaafigmfclcaa
open Go.RowKit Go

set_option maxHeartbeats 4000000 in
set_option maxRecDepth 100000 in
theorem rem_inner (h : Nat) (w : World) (p : Nat) (k : ByteArray) (t : Nd It (h + 1)) (F : List Nat) (hN : NW (h + 1) w p t F) (hn : Nod F) (hs : t.sub) (hl : t.its.length ≤ 15) (hso : Sorted (t.flat (h + 1))) (hb : (t.flat (h + 1)).length < 1000000000000000000)
    (IH : ∀ (w : World) (p : Nat) (t : Nd It h) (F : List Nat), NW h w p t F → Nod F → t.sub → t.its.length ≤ 15 → 1 ≤ t.its.length → Sorted (t.flat h) → (t.flat h).length < 1000000000000000000 → Calls Try.prog 33 #[pv p, .string k] w (fun x w' => ∃ (t' : Nd It h) (F' : List Nat) (old : GV) (th : Bool), x = .returned (.tuple #[ev old, .bool th]) ∧ NW h w' p t' F' ∧ Fits w.heap.size F F' ∧ Tch (fun i => i ∈ F) w w' ∧ t'.sub ∧ t'.its.length ≤ t.its.length ∧ t.its.length ≤ t'.its.length + 1 ∧ RemRel k (t.flat h) (t'.flat h) old th)) (h1 : 1 ≤ t.its.length) :
    Calls Try.prog 33 #[pv p, .string k] w (fun x w' => ∃ (t' : Nd It (h + 1)) (F' : List Nat) (old : GV) (th : Bool), x = .returned (.tuple #[ev old, .bool th]) ∧ NW (h + 1) w' p t' F' ∧ Fits w.heap.size F F' ∧ Tch (fun i => i ∈ F) w w' ∧ t'.sub ∧ t'.its.length ≤ t.its.length ∧ t.its.length ≤ t'.its.length + 1 ∧ RemRel k (t.flat (h + 1)) (t'.flat (h + 1)) old th) := by
  have HN : Hid (NW (h + 1) w p t F) := hN
  have HNod : Hid (Nod F) := hn
  have Hsub : Hid (Nd.sub (h + 1) t) := hs
  have Hl15 : Hid (t.its.length ≤ 15) := hl
  have Hso : Hid (Sorted (t.flat (h + 1))) := hso
  have Hb : Hid ((t.flat (h + 1)).length < 1000000000000000000) := hb
  obtain ⟨iv, kv, qs, FF, hP, hK, hFe⟩ := NW_iff.1 hN
  have he := sub_even (h + 1) t hs
  have q := find_any p t.its k iv kv _ w hP.nd hP.its (its_sorted t he hso) (by omega)
  have HP : Hid (FN w p iv kv t.its qs (Nd.flat (h + 1) t).length) := hP
  have hqs : qs.isEmpty = false := by
    obtain ⟨ks, e1, e2, _, _⟩ := hK
    have h9 : t.2.length = t.1.length + 1 := he
    rw [e2, List.length_map] at h9
    rw [e1]
    cases ks with
    | nil => simp at h9
    | cons x ks => rfl
  obtain ⟨s, hsz⟩ : ∃ s : Int, s = ((Nd.flat (h + 1) t).length : Int) := ⟨_, rfl⟩
  have Hs : Hid (s = ((Nd.flat (h + 1) t).length : Int)) := hsz
  have HIH : Hid _ := IH
  have H1 : Hid (1 ≤ t.its.length) := h1
  clear hP hK hFe hsz IH h1
  clear hN hn hs hl hso hb he
  go_enter Try.func33, Try.ntmps33
  go_wp2_with fail
  refine q.mono ?_
  rintro x w1 ⟨⟨i, th, rfl, hF⟩, t1⟩
  clear q
  have hP1 := HP.out.tch t1 (fun _ _ h => h)
  have q := leaf_any p iv kv t.its qs _ w1 hP1
  rw [hqs] at q
  cases th with
  | true =>
    obtain ⟨it, hit, hk⟩ := hF.at_ rfl
    obtain ⟨hi, hit2⟩ := List.getElem?_eq_some_iff.1 hit
    have hi' : i < t.1.length := hi
    obtain ⟨g, ic, ei, -, -, hgl, j0, j1, jf⟩ := it_at hP1.its hi
    rw [hit2] at j0 j1
    obtain ⟨ka, kb, kk, et0, hka, hkb, hma, hmb, hmk⟩ := node_at t i (Nat.le_of_lt hi) Hsub.out.1
    have hok := Hsub.out.2
    obtain ⟨A, hA⟩ : ∃ A, A = t.1.take i := ⟨_, rfl⟩
    obtain ⟨B, hB⟩ : ∃ B, B = t.1.drop (i + 1) := ⟨_, rfl⟩
    have hcut : A ++ it :: B = t.1 := by rw [hA, hB]; exact list_cut t.1 i it hit
    have et : t = ((A ++ it :: B, ka ++ kk :: kb) : Nd It (h + 1)) := Prod.ext hcut.symm (by have := congrArg Prod.snd et0; exact this)
    have hAl : A.length = i := by rw [hA, List.length_take]; omega
    have hBl : B.length + 1 + i = t.1.length := by rw [hB, List.length_drop]; omega
    have hN1 : NWX h w1 p (A ++ it :: B) (ka ++ kk :: kb) F s := by
      have h0 : NW (h + 1) w1 p t F := HN.out.tch t1 (fun _ _ h => h)
      rw [Hs.out]
      rw [et] at h0 ⊢
      exact NW_X.1 h0
    obtain ⟨qk, Fk, kg, kd, d1, k0, hq, hnk, -, hpF, hkgF, hgF, hstep⟩ := hN1.kid HNod.out
    have c0 := hP1.nd.cells.1
    rw [ei] at c0
    have hgF' := hgF g _ _ c0
    have hkk := hok kk hmk
    have hkks := (ok_iff h kk).1 hkk.1
    have hb2 := Hb.out
    rw [et] at hb2
    have hsz : (kk.flat h).length ≤ 1000000000000000000 := Nat.le_trans (kid_size A (it :: B) ka kb kk (hka.trans hAl.symm)) (Nat.le_of_lt hb2)
    have hmp : (ka ++ kk :: kb).length = t.1.length + 1 := by simp only [List.length_append, List.length_cons]; omega
    have hl15 : t.1.length ≤ 15 := Hl15.out
    obtain ⟨n, hn⟩ : ∃ n, n = t.1.length := ⟨_, rfl⟩
    rw [hmp, ← hn] at d1
    rw [hka] at k0
    have hc0 : w1.cell? ⟨p, 0, none⟩ = some (.slice (some ⟨g, 0, none⟩) n ic) := by rw [hn]; exact c0
    clear c0
    rw [← hn] at hl15 hBl hkb hi'
    have hiI : (i : Int) < n := by omega
    have hiI2 : (i : Int) < (n : Int) + 1 := by omega
    have Het : Hid (t = ((A ++ it :: B, ka ++ kk :: kb) : Nd It (h + 1))) := et
    have Hn : Hid (n = t.1.length) := hn
    have Hka : Hid (∀ x ∈ ka, x.ok ∧ 7 ≤ x.its.length) := fun x hx => hok x (hma x hx)
    have Hkb : Hid (∀ x ∈ kb, x.ok ∧ 7 ≤ x.its.length) := fun x hx => hok x (hmb x hx)
    have Hkk : Hid (7 ≤ kk.its.length ∧ kk.its.length ≤ 15) := ⟨hkk.2, hkks.1⟩
    have Hstep : Hid (∀ (w' : World) (k' : Nd It h) (Fk' : List Nat), NW h w' qk k' Fk' → Fits w1.heap.size Fk Fk' → Tch (fun i => i ∈ Fk) w1 w' → ∃ F', NWX h w' p (A ++ it :: B) (ka ++ k' :: kb) F' s ∧ Fits w1.heap.size F F' ∧ Tch (fun i => i ∈ F) w1 w') := hstep
    have T01 : Hid (Tch (fun _ => False) w w1) := t1
    have Hitk : Hid (it = (k, it.2)) := by show it = _; rw [← hk]
    have Hap : Hid (p ∉ Fk ∧ kg ∉ Fk ∧ g ∉ Fk) := ⟨hpF, hkgF, hgF'⟩
    have Hj : Hid (w1.cell? ⟨g, i * 2, none⟩ = some (.string it.1) ∧ w1.cell? ⟨g, i * 2 + 1, none⟩ = some (ev it.2) ∧ ∀ j, w1.frozen? ⟨g, j, none⟩ = false) := ⟨j0, j1, jf⟩
    have HQ : Hid (NW h w1 qk kk Fk) := hq
    have HQn : Hid (Nod Fk ∧ kk.sub ∧ (kk.flat h).length ≤ 1000000000000000000) := ⟨hnk, hkks.2, hsz⟩
    have hd1 := d1
    have hk0 := k0
    clear hN1 hstep hq hnk hok hkk hkks hb2 et et0 hA hB hcut hF t1 hn hmp hmk hma hmb hP1 HIH hgF hgF' hpF hkgF hsz j0 jf ei hit hit2 hk hgl hi hd1 hk0
    go_wp2_with (go_at_call 51; refine q.mono ?_; rintro x w1' ⟨rfl, hwx⟩; subst hwx; clear q)
    have HK : Hid (∀ W, Tch (fun i => i ∈ Fk) w1' W → (W.cell? ⟨p, 0, none⟩ = some (.slice (some ⟨g, 0, none⟩) n ic) ∧ W.cell? ⟨p, 1, none⟩ = some (.slice (some ⟨kg, 0, none⟩) (n + 1) kd) ∧ W.cell? ⟨kg, i, none⟩ = some (pv qk))) := fun W tW => ⟨by rw [tW.cell (p := ⟨p, 0, none⟩) (cell_lt hc0) Hap.out.1]; exact hc0, by rw [tW.cell (p := ⟨p, 1, none⟩) (cell_lt d1) Hap.out.1]; exact d1, by rw [tW.cell (p := ⟨kg, i, none⟩) (cell_lt k0) Hap.out.2.1]; exact k0⟩
    obtain ⟨C, hC⟩ : ∃ C : List Value → World → Prop, C = fun s W => match s with
      | [] => Tch (fun _ => False) w1' W
      | [y] => ∃ m, y = itV m ∧ ∃ (k' : Nd It h) (Fk' : List Nat), NW h W qk k' Fk' ∧ Fits w1'.heap.size Fk Fk' ∧ Tch (fun i => i ∈ Fk) w1' W ∧ k'.sub ∧ k'.its.length ≤ kk.its.length ∧ kk.its.length ≤ k'.its.length + 1 ∧ kk.flat h = k'.flat h ++ [m]
      | _ => False := ⟨_, rfl⟩
    have hK : ∀ s W, C s W → W.cell? ⟨p, 0, none⟩ = some (.slice (some ⟨g, 0, none⟩) n ic) ∧ W.cell? ⟨p, 1, none⟩ = some (.slice (some ⟨kg, 0, none⟩) (n + 1) kd) ∧ W.cell? ⟨kg, i, none⟩ = some (pv qk) := fun s W h => by
      rw [hC] at h
      match s, h with
      | [], h => exact HK.out W (h.mono (fun _ _ h => h.elim))
      | [_], ⟨_, _, _, _, _, _, h, _⟩ => exact HK.out W h
    have h2 : ∀ W, C [] W → Calls Try.prog 55 #[pv qk] W fun x w' => ∃ m, x = .returned (itV m) ∧ C [itV m] w' := fun W tW => by
      rw [hC] at tW
      have tW' : Tch (fun _ => False) w1' W := tW
      refine (last_any h W qk kk Fk (HQ.out.tch tW' (fun _ _ h => h)) HQn.out.1 HQn.out.2.1 (by have := Hkk.out.1; omega) Hkk.out.2 HQn.out.2.2).mono ?_
      rintro x w' ⟨k', Fk', m, rfl, nk', fk', tk', sk', lk', lk'', fl'⟩
      refine ⟨m, rfl, ?_⟩
      rw [hC]
      exact ⟨m, rfl, k', Fk', nk', fun b => ⟨fun hb => (fk' b).1 (Nat.lt_of_lt_of_le hb tW'.size), fun _ => fk'.nod HQn.out.1 b⟩, (tW'.mono (fun _ _ h => h.elim)).trans' tk', sk', lk', lk'', fl'⟩
    have h2s : ∀ y W, C [y] W → ∃ m : It, y = itV m := fun y W h => by
      rw [hC] at h
      obtain ⟨m, e, _⟩ := h
      exact ⟨m, e⟩
    have Hfin : Hid (∀ y W, C [y] W → ∃ m, y = itV m ∧ ∃ (k' : Nd It h) (Fk' : List Nat), NW h W qk k' Fk' ∧ Fits w1'.heap.size Fk Fk' ∧ Tch (fun i => i ∈ Fk) w1' W ∧ k'.sub ∧ k'.its.length ≤ kk.its.length ∧ kk.its.length ≤ k'.its.length + 1 ∧ kk.flat h = k'.flat h ++ [m]) := fun y W h => by
      rw [hC] at h
      exact h
    have h0' : C [] w1'.drew := by rw [hC]; exact (Tch.refl _ _).drew
    clear hC HK
    refine wp_region_ordv [12] C 13 [0, 1, 2, 3, 4, 5, 6, 7, 8, 9, 10, 11, 12] (by kernel_rfl) (by kernel_rfl) h0' ?_
    clear h0'
    refine ordv_read rfl (by go_simp) (by rfl) ?_
    apply Exists.intro
    refine ⟨fun s' Wy hW b K Q hK' => ?_, fun K hK' => ?_⟩
    · obtain ⟨y0, y1, y2⟩ := hK _ Wy hW
      go_simp
      exact hK' Wy hW
    go_simp
    refine hK' _ ?_
    clear hK' K
    refine ordv_read rfl (by go_simp) (by rfl) ?_
    apply Exists.intro
    refine ⟨fun s' Wy hW b K Q hK' => ?_, fun K hK' => ?_⟩
    · obtain ⟨y0, y1, y2⟩ := hK _ Wy hW
      go_simp
      exact hK' Wy hW
    go_simp
    refine hK' _ ?_
    clear hK' K
    refine ordv_read rfl (by go_simp) (by rfl) ?_
    apply Exists.intro
    refine ⟨fun s' Wy hW b K Q hK' => ?_, fun K hK' => ?_⟩
    · obtain ⟨y0, y1, y2⟩ := hK _ Wy hW
      go_simp
      exact hK' Wy hW
    go_simp
    refine hK' _ ?_
    clear hK' K
    refine ordv_read rfl (by go_simp) (by rfl) ?_
    apply Exists.intro
    refine ⟨fun s' Wy hW b K Q hK' => ?_, fun K hK' => ?_⟩
    · obtain ⟨y0, y1, y2⟩ := hK _ Wy hW
      go_simp
      exact hK' Wy hW
    go_simp
    refine hK' _ ?_
    clear hK' K
    refine ordv_read rfl (by go_simp) (by rfl) ?_
    apply Exists.intro
    refine ⟨fun s' Wy hW b K Q hK' => ?_, fun K hK' => ?_⟩
    · obtain ⟨y0, y1, y2⟩ := hK _ Wy hW
      go_simp
      exact hK' Wy hW
    go_simp
    refine hK' _ ?_
    clear hK' K
    refine ordv_read rfl (by go_simp) (by rfl) ?_
    apply Exists.intro
    refine ⟨fun s' Wy hW b K Q hK' => ?_, fun K hK' => ?_⟩
    · obtain ⟨y0, y1, y2⟩ := hK _ Wy hW
      go_simp
      exact hK' Wy hW
    go_simp
    refine hK' _ ?_
    clear hK' K
    refine ordv_read rfl (by go_simp) (by rfl) ?_
    apply Exists.intro
    refine ⟨fun s' Wy hW b K Q hK' => ?_, fun K hK' => ?_⟩
    · obtain ⟨y0, y1, y2⟩ := hK _ Wy hW
      go_simp
      exact hK' Wy hW
    go_simp
    refine hK' _ ?_
    clear hK' K
    refine ordv_read rfl (by go_simp) (by rfl) ?_
    apply Exists.intro
    refine ⟨fun s' Wy hW b K Q hK' => ?_, fun K hK' => ?_⟩
    · obtain ⟨y0, y1, y2⟩ := hK _ Wy hW
      go_simp
      exact hK' Wy hW
    go_simp
    refine hK' _ ?_
    clear hK' K
    refine ordv_read rfl (by go_simp) (by rfl) ?_
    apply Exists.intro
    refine ⟨fun s' Wy hW b K Q hK' => ?_, fun K hK' => ?_⟩
    · obtain ⟨y0, y1, y2⟩ := hK _ Wy hW
      go_simp
      exact hK' Wy hW
    go_simp
    refine hK' _ ?_
    clear hK' K
    refine ordv_read rfl (by go_simp) (by rfl) ?_
    apply Exists.intro
    refine ⟨fun s' Wy hW b K Q hK' => ?_, fun K hK' => ?_⟩
    · obtain ⟨y0, y1, y2⟩ := hK _ Wy hW
      go_simp
      exact hK' Wy hW
    go_simp
    refine hK' _ ?_
    clear hK' K
    refine ordv_read rfl (by go_simp) (by rfl) ?_
    apply Exists.intro
    refine ⟨fun s' Wy hW b K Q hK' => ?_, fun K hK' => ?_⟩
    · obtain ⟨y0, y1, y2⟩ := hK _ Wy hW
      go_simp
      exact hK' Wy hW
    go_simp
    refine hK' _ ?_
    clear hK' K
    refine ordv_read rfl (by go_simp) (by rfl) ?_
    apply Exists.intro
    refine ⟨fun s' Wy hW b K Q hK' => ?_, fun K hK' => ?_⟩
    · obtain ⟨y0, y1, y2⟩ := hK _ Wy hW
      go_simp
      exact hK' Wy hW
    go_simp
    refine hK' _ ?_
    clear hK' K
    refine ordv_turn rfl (by go_simp) (by rfl) (fun Wy hW b K Q hK' => ?_) (fun u hu K hK' => ?_)
    · go_simp
      go_at_call 55
      refine (h2 Wy hW).mono ?_
      rintro x w' ⟨m, rfl, h3⟩
      exact hK' _ w' h3
    obtain ⟨m, rfl⟩ : ∃ m : It, u = itV m := by
      obtain ⟨W', hW'⟩ := hu
      exact h2s u W' hW'
    clear hu h2 h2s
    go_simp
    refine hK' _ ?_
    clear hK' K
    refine ordv_nil ?_
    intro w2 hw2
    obtain ⟨m', em, k', Fk', nk', fk', tk', sk', lk', lk'', fl'⟩ := Hfin.out _ _ hw2
    have em' : m = m' := by
      injection em with em
      simp only [Array.mk.injEq, List.cons.injEq, Value.string.injEq, and_true] at em
      obtain ⟨e1, e2⟩ := em
      injection e2 with _ e2
      exact Prod.ext e1 e2
    subst em'
    obtain ⟨z0, -, -⟩ := hK _ _ hw2
    obtain ⟨F2, N2, fi2, tc2⟩ := Hstep.out w2 k' Fk' nk' fk' tk'
    have hgc : ∀ j, w2.cell? ⟨g, j, none⟩ = w1'.cell? ⟨g, j, none⟩ := fun j => tk'.cell (p := ⟨g, j, none⟩) (cell_lt Hj.out.1 : g < _) Hap.out.2.2
    have z1 : w2.cell? ⟨g, i * 2, none⟩ = some (.string it.1) := by rw [hgc]; exact Hj.out.1
    have z2 : w2.cell? ⟨g, i * 2 + 1, none⟩ = some (ev it.2) := by rw [hgc]; exact Hj.out.2.1
    have z3 : w2.frozen? ⟨g, i * 2, none⟩ = false := by rw [tk'.frozen (p := ⟨g, i * 2, none⟩) (cell_lt Hj.out.1 : g < _) Hap.out.2.2]; exact Hj.out.2.2 _
    have z4 : w2.frozen? ⟨g, i * 2 + 1, none⟩ = false := by rw [tk'.frozen (p := ⟨g, i * 2 + 1, none⟩) (cell_lt Hj.out.1 : g < _) Hap.out.2.2]; exact Hj.out.2.2 _
    have hnod2 := fi2.nod HNod.out
    obtain ⟨N3, tc3⟩ := N2.setIt (e := m) (k := i) hnod2 z0 (by simp only [List.length_append, List.length_cons]; omega)
    have hset : (A ++ it :: B).set i m = A ++ m :: B := by rw [← hAl]; exact set_mid A B it m
    rw [hset] at N3
    obtain ⟨w3, hw3⟩ : ∃ w3, w3 = (w2.setCell ⟨g, i * 2, none⟩ (.string m.1)).setCell ⟨g, i * 2 + 1, none⟩ (ev m.2) := ⟨_, rfl⟩
    rw [← hw3] at N3 tc3
    obtain ⟨LL, hLL⟩ : ∃ LL, LL = A ++ m :: B := ⟨_, rfl⟩
    have Hrel : Hid (RemRel k (Nd.flat (h + 1) t) (Nd.flat (h + 1) ((LL, ka ++ k' :: kb) : Nd It (h + 1))) it.2 true) := by
      obtain ⟨X, Y, e1, e2⟩ := item_gone h A B it m ka kb kk k' (hka.trans hAl.symm) fl'
      rw [← Het.out] at e1
      rw [hLL, e2]
      have hso := Hso.out
      rw [e1] at hso
      refine Or.inl ⟨rfl, X, Y, fun e he => ?_, fun e he => ?_, rfl, by rw [← Hitk.out]; exact e1⟩
      · have := (List.pairwise_append.1 hso).2.2 e he it (by simp)
        unfold KL at this
        rw [Hitk.out] at this
        exact this
      · have := (List.pairwise_cons.1 (List.pairwise_append.1 hso).2.1).1 e he
        unfold KL at this
        rw [Hitk.out] at this
        replace this : kc k e.1 < 0 := this
        have := kc_flip k e.1
        unfold Hi
        omega
    rw [← hLL] at N3
    have hLl : LL.length = n := by rw [hLL, List.length_append, List.length_cons]; omega
    have hflen : (Nd.flat (h + 1) ((LL, ka ++ k' :: kb) : Nd It (h + 1))).length ≤ 1000000000000000000 := by
      have h8 := Hrel.out.len
      have := Hb.out
      simp only [if_true] at h8
      omega
    have qm := mend_x h w3 p s LL ka kb k' F2 N3 hnod2 (by omega) (by omega) (by omega) (by have := Hkk.out.1; omega) (by have := Hkk.out.2; omega) sk' Hka.out Hkb.out hflen
    rw [hka] at qm
    have X2 : Hid (Fits w.heap.size F F2 ∧ Tch (fun i => i ∈ F) w w3) := ⟨fun b => by
      have := fi2 b
      have h4 := T01.out.size
      exact ⟨fun hb => this.1 (by omega), fun hb => hnod2 b⟩, ((T01.out.mono (fun _ _ h => h.elim)).trans' tc2).trans tc3 (fun i hi hm => by
        rcases fi2.old hm with h6 | h6
        · exact h6
        · have := T01.out.size; omega)⟩
    have Hw3 : Hid _ := hw3
    clear N2 fi2 tc2 tc3 N3 nk' fk' tk' hLL hflen lk' lk'' sk' fl' Hstep hnod2 hset hw3 hK hgc em hw2 Hfin d1 k0 hc0 j1 C
    go_wp2_with fail
    have hw := Hw3.out
    rw [← hw]
    clear hw z0 z1 z2 z3 z4
    refine qm.mono ?_
    rintro x w4 ⟨rfl, L', ts', F4, N4, fi4, tc4, sub4, fl4, le4, ge4⟩
    rw [hLl] at le4 ge4
    have X4 : Hid (NWX h w4 p L' ts' F4 s ∧ Fits w3.heap.size F2 F4 ∧ Tch (fun i => i ∈ F2) w3 w4 ∧ Nd.sub (h + 1) ((L', ts') : Nd It (h + 1)) ∧ Nd.flat (h + 1) ((L', ts') : Nd It (h + 1)) = Nd.flat (h + 1) ((LL, ka ++ k' :: kb) : Nd It (h + 1)) ∧ L'.length ≤ n ∧ n ≤ L'.length + 1) := ⟨N4, fi4, tc4, sub4, fl4, le4, ge4⟩
    clear N4 fi4 tc4 sub4 fl4 le4 ge4 qm
    obtain ⟨c2, f2⟩ := X4.out.1.cells
    have hsb : s < 1000000000000000000 := by have := Hs.out; have := Hb.out; omega
    have hsb0 : 1 ≤ s := by
      have h8 := Hrel.out.len
      have := Hs.out
      simp only [if_true] at h8
      omega
    go_wp2_with fail
    go_ret2
    obtain ⟨N4, fi4, tc4, sub4, fl4, le4, ge4⟩ := X4.out
    obtain ⟨m1, m2⟩ := N4.setSz (fi4.nod (X2.out.1.nod HNod.out)) (s - 1)
    refine ⟨((L', ts') : Nd It (h + 1)), F4, it.2, true, rfl, ?_, X2.out.1.trans fi4 X2.out.2.size, ?_, sub4, ?_, ?_, ?_⟩
    · rw [NW_X]
      have e : ((Nd.flat (h + 1) ((L', ts') : Nd It (h + 1))).length : Int) = s - 1 := by
        have h8 := Hrel.out.len
        have := Hs.out
        simp only [if_true] at h8
        rw [fl4]
        omega
      rw [e]
      exact m1
    · refine (X2.out.2.trans tc4 (fun i hi hm => ?_)).trans m2 (fun i hi hm => ?_)
      · rcases X2.out.1.old hm with h6 | h6
        · exact h6
        · omega
      · rcases (X2.out.1.trans fi4 X2.out.2.size).old hm with h6 | h6
        · exact h6
        · omega
    · show L'.length ≤ t.1.length; have := Hn.out; omega
    · show t.1.length ≤ L'.length + 1; have := Hn.out; omega
    · rw [fl4]; exact Hrel.out
  | false =>
    obtain ⟨ka, kb, kk, et, hka, hkb, hma, hmb, hmk⟩ := node_at t i hF.le Hsub.out.1
    have hok := Hsub.out.2
    obtain ⟨A, hA⟩ : ∃ A, A = t.1.take i := ⟨_, rfl⟩
    obtain ⟨B, hB⟩ : ∃ B, B = t.1.drop i := ⟨_, rfl⟩
    rw [← hA, ← hB] at et
    have hile0 : i ≤ t.1.length := hF.le
    have hAl : A.length = i := by rw [hA, List.length_take]; omega
    have hBl : B.length = t.1.length - i := by rw [hB, List.length_drop]
    have hAlo : ∀ e ∈ A, Lo k e := fun e he => hF.lo e (by rw [hA] at he; exact he)
    have hBhi : ∀ e ∈ B, Hi k e := fun e he => hF.hi rfl e (by rw [hB] at he; exact he)
    have hN1 : NWX h w1 p (A ++ B) (ka ++ kk :: kb) F s := by
      have h0 : NW (h + 1) w1 p t F := HN.out.tch t1 (fun _ _ h => h)
      rw [Hs.out]
      rw [et] at h0 ⊢
      exact NW_X.1 h0
    obtain ⟨qk, Fk, kg, kd, d1, k0, hq, hnk, -, -, -, -, hstep⟩ := hN1.kid HNod.out
    have hkk := hok kk hmk
    have hkks := (ok_iff h kk).1 hkk.1
    have hso2 := Hso.out
    have hb2 := Hb.out
    rw [et] at hso2 hb2
    have qp := HIH.out w1 qk kk Fk hq hnk hkks.2 hkks.1 (by omega) (kid_sorted (hka.trans hAl.symm) hso2) (Nat.lt_of_le_of_lt (kid_size A B ka kb kk (hka.trans hAl.symm)) hb2)
    have hmp : (ka ++ kk :: kb).length = t.1.length + 1 := by simp only [List.length_append, List.length_cons]; omega
    have hl15 : t.1.length ≤ 15 := Hl15.out
    have hl1 : 1 ≤ t.1.length := H1.out
    obtain ⟨n, hn⟩ : ∃ n, n = t.1.length := ⟨_, rfl⟩
    rw [hmp, ← hn] at d1
    rw [hka] at k0
    rw [← hn] at hl15 hile0 hBl hkb hl1
    have hiI : (i : Int) < (n : Int) + 1 := by omega
    have Het : Hid (t = ((A ++ B, ka ++ kk :: kb) : Nd It (h + 1))) := et
    have Hn : Hid (n = t.1.length) := hn
    have Hlo : Hid (∀ e ∈ A, Lo k e) := hAlo
    have Hhi : Hid (∀ e ∈ B, Hi k e) := hBhi
    have Hka : Hid (∀ x ∈ ka, x.ok ∧ 7 ≤ x.its.length) := fun x hx => hok x (hma x hx)
    have Hkb : Hid (∀ x ∈ kb, x.ok ∧ 7 ≤ x.its.length) := fun x hx => hok x (hmb x hx)
    have Hkk : Hid (7 ≤ kk.its.length ∧ kk.its.length ≤ 15) := ⟨hkk.2, hkks.1⟩
    have Hstep : Hid (∀ (w' : World) (k' : Nd It h) (Fk' : List Nat), NW h w' qk k' Fk' → Fits w1.heap.size Fk Fk' → Tch (fun i => i ∈ Fk) w1 w' → ∃ F', NWX h w' p (A ++ B) (ka ++ k' :: kb) F' s ∧ Fits w1.heap.size F F' ∧ Tch (fun i => i ∈ F) w1 w') := hstep
    have T01 : Hid (Tch (fun _ => False) w w1) := t1
    have Hso2 : Hid (Sorted (Nd.flat (h + 1) ((A ++ B, ka ++ kk :: kb) : Nd It (h + 1)))) := hso2
    clear hN1 hstep hq hnk hok hkk hkks hso2 hb2 et hA hB hAlo hBhi hF t1 hn hmp hmk hma hmb hP1 HIH
    go_wp2_with (go_at_call 51; refine q.mono ?_; rintro x w1' ⟨rfl, hwx⟩; subst hwx; clear q)
    clear d1 k0
    refine qp.mono ?_
    rintro x w3 ⟨k', Fk', old', th', rfl, nk', fk', tk', sk', lk', lk'', pr'⟩
    obtain ⟨F2, N2, fi2, tc2⟩ := Hstep.out w3 k' Fk' nk' fk' tk'
    have Hrel : Hid (RemRel k (Nd.flat (h + 1) t) (Nd.flat (h + 1) ((A ++ B, ka ++ k' :: kb) : Nd It (h + 1))) old' th') := by
      have := RemRel.kid pr' (hka.trans hAl.symm) Hlo.out Hhi.out Hso2.out
      rw [← Het.out] at this
      exact this
    obtain ⟨LL, hLL⟩ : ∃ LL, LL = A ++ B := ⟨_, rfl⟩
    rw [← hLL] at N2 Hrel
    have hLl : LL.length = n := by rw [hLL, List.length_append]; omega
    have hflen : (Nd.flat (h + 1) ((LL, ka ++ k' :: kb) : Nd It (h + 1))).length ≤ 1000000000000000000 := by
      have h8 := Hrel.out.len
      have := Hb.out
      split at h8 <;> omega
    have qm := mend_x h w3 p s LL ka kb k' F2 N2 (fi2.nod HNod.out) (by omega) (by omega) (by omega) (by have := Hkk.out.1; omega) (by have := Hkk.out.2; omega) sk' Hka.out Hkb.out hflen
    rw [hka] at qm
    have X2 : Hid (Fits w.heap.size F F2 ∧ Tch (fun i => i ∈ F) w w3) := ⟨fun b => by
      have := fi2 b
      have h4 := T01.out.size
      exact ⟨fun hb => this.1 (by omega), fun hb => fi2.nod HNod.out b⟩, (T01.out.mono (fun _ _ h => h.elim)).trans' tc2⟩
    clear N2 fi2 tc2 nk' fk' tk' pr' hLL hflen qp lk' lk'' sk' Hstep
    go_wp2_with fail
    refine qm.mono ?_
    rintro x w4 ⟨rfl, L', ts', F4, N4, fi4, tc4, sub4, fl4, le4, ge4⟩
    rw [hLl] at le4 ge4
    have X4 : Hid (NWX h w4 p L' ts' F4 s ∧ Fits w3.heap.size F2 F4 ∧ Tch (fun i => i ∈ F2) w3 w4 ∧ Nd.sub (h + 1) ((L', ts') : Nd It (h + 1)) ∧ Nd.flat (h + 1) ((L', ts') : Nd It (h + 1)) = Nd.flat (h + 1) ((LL, ka ++ k' :: kb) : Nd It (h + 1)) ∧ L'.length ≤ n ∧ n ≤ L'.length + 1) := ⟨N4, fi4, tc4, sub4, fl4, le4, ge4⟩
    clear N4 fi4 tc4 sub4 fl4 le4 ge4 qm
    cases th' with
    | true =>
      obtain ⟨c2, f2⟩ := X4.out.1.cells
      have hsb : s < 1000000000000000000 := by have := Hs.out; have := Hb.out; omega
      have hsb0 : 1 ≤ s := by
        have h8 := Hrel.out.len
        have := Hs.out
        simp only [if_true] at h8
        omega
      go_wp2_with fail
      go_ret2
      obtain ⟨N4, fi4, tc4, sub4, fl4, le4, ge4⟩ := X4.out
      obtain ⟨m1, m2⟩ := N4.setSz (fi4.nod (X2.out.1.nod HNod.out)) (s - 1)
      refine ⟨((L', ts') : Nd It (h + 1)), F4, old', true, rfl, ?_, X2.out.1.trans fi4 X2.out.2.size, ?_, sub4, ?_, ?_, ?_⟩
      · rw [NW_X]
        have e : ((Nd.flat (h + 1) ((L', ts') : Nd It (h + 1))).length : Int) = s - 1 := by
          have h8 := Hrel.out.len
          have := Hs.out
          simp only [if_true] at h8
          rw [fl4]
          omega
        rw [e]
        exact m1
      · refine (X2.out.2.trans tc4 (fun i hi hm => ?_)).trans m2 (fun i hi hm => ?_)
        · rcases X2.out.1.old hm with h6 | h6
          · exact h6
          · omega
        · rcases (X2.out.1.trans fi4 X2.out.2.size).old hm with h6 | h6
          · exact h6
          · omega
      · show L'.length ≤ t.1.length; have := Hn.out; omega
      · show t.1.length ≤ L'.length + 1; have := Hn.out; omega
      · rw [fl4]; exact Hrel.out
    | false =>
      go_wp2_with fail
      go_ret2
      obtain ⟨N4, fi4, tc4, sub4, fl4, le4, ge4⟩ := X4.out
      refine ⟨((L', ts') : Nd It (h + 1)), F4, old', false, rfl, ?_, X2.out.1.trans fi4 X2.out.2.size, ?_, sub4, ?_, ?_, ?_⟩
      · rw [NW_X]
        have e : ((Nd.flat (h + 1) ((L', ts') : Nd It (h + 1))).length : Int) = s := by
          have h8 := Hrel.out.len
          have := Hs.out
          simp at h8
          rw [fl4]
          omega
        rw [e]
        exact N4
      · refine X2.out.2.trans tc4 (fun i hi hm => ?_)
        rcases X2.out.1.old hm with h6 | h6
        · exact h6
        · omega
      · show L'.length ≤ t.1.length; have := Hn.out; omega
      · show t.1.length ≤ L'.length + 1; have := Hn.out; omega
      · rw [fl4]; exact Hrel.out
theorem rem_any : ∀ (h : Nat) (w : World) (p : Nat) (k : ByteArray) (t : Nd It h) (F : List Nat), NW h w p t F → Nod F → t.sub → t.its.length ≤ 15 → (0 < h → 1 ≤ t.its.length) → Sorted (t.flat h) → (t.flat h).length < 1000000000000000000 → Calls Try.prog 33 #[pv p, .string k] w (fun x w' => ∃ (t' : Nd It h) (F' : List Nat) (old : GV) (th : Bool), x = .returned (.tuple #[ev old, .bool th]) ∧ NW h w' p t' F' ∧ Fits w.heap.size F F' ∧ Tch (fun i => i ∈ F) w w' ∧ t'.sub ∧ t'.its.length ≤ t.its.length ∧ t.its.length ≤ t'.its.length + 1 ∧ RemRel k (t.flat h) (t'.flat h) old th)
  | 0, w, p, k, t, F, a, b, c, d, _, e, f => rem_leaf w p k t F a b c d e f
  | h + 1, w, p, k, t, F, a, b, c, d, g, e, f => rem_inner h w p k t F a b c d e f (fun w p t F a b c d g e f => rem_any h w p k t F a b c d (fun _ => g) e f) (g (Nat.succ_pos h))
end Go.Proofs.Ytdbaafigmfclcaa
