import Derived.Test.YtdbaafigmfclcaaTTSm
/- Get of a tree; At beyond its items. -/
namespace Go.Proofs.Ytdbaafigmfclcaa
open Go.RowKit Go

theorem sorted_uniq {l : List It} (hs : Sorted l) {k : ByteArray} {v v' : GV} (h1 : (k, v) ∈ l) (h2 : (k, v') ∈ l) : v = v' := by
  induction l with
  | nil => simp at h1
  | cons a l ih =>
    obtain ⟨p1, p2⟩ := List.pairwise_cons.1 hs
    rcases List.mem_cons.1 h1 with e1 | e1 <;> rcases List.mem_cons.1 h2 with e2 | e2
    · rw [← e1] at e2; injection e2 with _ e2; exact e2.symm
    · have h3 := p1 _ e2
      rw [← e1] at h3
      unfold KL at h3
      have := kc_self k
      simp only at h3
      omega
    · have h3 := p1 _ e1
      rw [← e2] at h3
      unfold KL at h3
      have := kc_self k
      simp only at h3
      omega
    · exact ih p2 e1 e2
theorem get_of_mem {l : List It} (hs : Sorted l) {k : ByteArray} {v : GV} (h : (k, v) ∈ l) : GetRel k l v true := by
  obtain ⟨x, y, rfl⟩ := List.append_of_mem h
  refine Or.inl ⟨rfl, x, y, rfl, fun e he => ?_, fun e he => ?_⟩
  · exact (List.pairwise_append.1 hs).2.2 e he (k, v) (by simp)
  · have h3 := (List.pairwise_cons.1 (List.pairwise_append.1 hs).2.1).1 e he
    unfold KL at h3
    have := kc_flip k e.1
    unfold Hi
    simp only at h3
    omega
theorem Gt.kid {w : World} {k : ByteArray} {l : List It} {h : Nat} {t : Nd It h} {p i : Nat} {G : List Nat} {X Y : List It} (hN : NW h w p t G) (hok : t.ok) (hl : l = X ++ (t.flat h ++ Y)) (hX : ∀ e ∈ X, Lo k e) (hY : ∀ e ∈ Y, Hi k e) (hs : Sorted l) (hF : Found t.its k i false) : ∃ v, Gt w k l h v ∧ Calls Try.prog 31 #[pv p, .int .i64 i] w fun x w' => x = .returned v ∧ w' = w := by
  obtain ⟨iv, kv, qs, FF, hP, hK, rfl⟩ := NW_iff.1 hN
  have hsu := (ok_iff h t).1 hok
  have he := sub_even h t hsu.2
  cases h with
  | zero =>
    have e : qs = [] := hK.1
    subst e
    refine ⟨.pointer none, Or.inl ⟨rfl, rfl, X ++ t.its.take i, t.its.drop i ++ Y, ?_, fun e he => (List.mem_append.1 he).elim (hX e) (hF.lo e), fun e he => (List.mem_append.1 he).elim (hF.hi rfl e) (hY e)⟩, kid_none p i iv kv _ _ w hP⟩
    have h0 : t.flat 0 = t.its.take i ++ t.its.drop i := (List.take_append_drop i t.its).symm
    rw [hl, h0, List.append_assoc, List.append_assoc]
  | succ h =>
    obtain ⟨ka, kb, kk, et, hka, hkb, hma, hmb, hmk⟩ := node_at t i hF.le he
    have hA : (t.1.take i).length = i := by rw [List.length_take]; have : i ≤ t.1.length := hF.le; omega
    have hfl : Nd.flat (h + 1) t = mix (t.1.take i) (ka.map (Nd.flat h) ++ [[]]) ++ (kk.flat h ++ mix (t.1.drop i) ([] :: kb.map (Nd.flat h))) := by
      have h8 := kid_mid h (t.1.take i) (t.1.drop i) ka kb kk (by omega)
      rw [← et] at h8
      exact h8
    have hsf : Sorted (Nd.flat (h + 1) t) := by rw [hl] at hs; exact (List.pairwise_append.1 (List.pairwise_append.1 hs).2.1).1
    rw [hfl] at hsf
    obtain ⟨p1, p2, _⟩ := List.pairwise_append.mp hsf
    obtain ⟨_, p3, _⟩ := List.pairwise_append.mp p2
    have hX' := ahead_all KL (Lo k) (fun e e' => Lo.of) (t.1.take i) (ka.map (Nd.flat h)) (by rw [List.length_map]; omega) p1 hF.lo
    have hY' := behind_all KL (Hi k) (fun e e' => Hi.of) (t.1.drop i) (kb.map (Nd.flat h)) p3 (hF.hi rfl)
    have hN' : KidsOf (NW h w) (ka ++ kk :: kb) qs FF := by
      have hk : KidsOf (NW h w) t.2 qs FF := hK
      have e2 : t.2 = ka ++ kk :: kb := congrArg Prod.snd et
      rw [e2] at hk
      exact hk
    obtain ⟨k1, k2, q, Fk, rfl, rfl, rfl, rfl, hq, h1, h2⟩ := kids_at hN'
    have hki : (kP k1 ++ q :: kP k2)[i]? = some q := by rw [List.getElem?_append_right (by rw [kP_len]; omega), kP_len, hka, Nat.sub_self]; rfl
    obtain ⟨hilt, hki2⟩ := List.getElem?_eq_some_iff.1 hki
    have h15 : t.1.length ≤ 15 := hsu.1
    have hkid := kid_some p i iv kv _ _ _ w hP hilt (by simp only [List.length_append, List.length_cons, kP_len]; have h10 := hsu.2.1; have e2 : t.2 = _ := congrArg Prod.snd et; have h11 := congrArg List.length e2; simp only [List.length_append, List.length_cons] at h11; omega)
    rw [hki2] at hkid
    refine ⟨pv q, Or.inr ⟨h, kk, q, Fk, X ++ mix (t.1.take i) ((kT k1).map (Nd.flat h) ++ [[]]), mix (t.1.drop i) ([] :: (kT k2).map (Nd.flat h)) ++ Y, rfl, rfl, hq, (hsu.2.2 kk hmk).1, ?_, fun e he => (List.mem_append.1 he).elim (hX e) (hX' e), fun e he => (List.mem_append.1 he).elim (hY' e) (hY e)⟩, hkid⟩
    rw [hl, hfl]
    simp
set_option maxHeartbeats 2000000 in
set_option maxRecDepth 100000 in
theorem get_t (w : World) (b : Nat) (l : List It) (ht : Nat) (F : List Nat) (k : ByteArray) (h : TW w b l ht F) : Calls Try.prog 28 #[pv b, .string k] w fun x w' => (∃ v th, x = .returned (.tuple #[ev v, .bool th]) ∧ GetRel k l v th) ∧ Tch (fun _ => False) w w' := by
  obtain ⟨v, c0, HV⟩ : ∃ v, w.cell? ⟨b, 0, none⟩ = some v ∧ Hid (Gt w k l ht v) := by
    obtain ⟨h1, h2, ⟨rfl, rfl, rfl, hb⟩ | ⟨h, t, p, G, rfl, hb, hN, h3, h4, rfl, rfl⟩⟩ := h
    · exact ⟨_, by rw [blk_cell hb]; rfl, Or.inl ⟨rfl, rfl, [], [], rfl, by simp, by simp⟩⟩
    · exact ⟨_, by rw [blk_cell hb]; rfl, Or.inr ⟨h, t, p, G, [], [], rfl, rfl, hN, h3, by simp, by simp, by simp⟩⟩
  have Hso : Hid (Sorted l) := h.2.1
  have hv1 : ∃ a, v = .pointer a := by
    rcases HV.out with ⟨_, e, _⟩ | ⟨_, _, p, _, _, _, _, e, _⟩
    · exact ⟨_, e⟩
    · exact ⟨_, e⟩
  obtain ⟨a, rfl⟩ := hv1
  clear h
  go_enter Try.func28, Try.ntmps28
  go_wp2_with fail
  clear c0
  go_loopg [6] ht (fun kx s6 wr => ∃ (a : Option Addr), s6 = .pointer a ∧ Hid (Tch (fun _ => False) w wr) ∧ Hid (Gt wr k l kx (.pointer a)))
  case atStart => exact ⟨a, rfl, Tch.refl _ _, HV⟩
  case round =>
    clear HV
    obtain ⟨a', rfl, HT, HV⟩ := hrel
    rcases HV.out with ⟨e1, e2, hg⟩ | ⟨h, t, p, G, X, Y, e1, e2, hN, hok, hl, hX, hY⟩
    · injection e2 with e2
      subst e2
      have Hg : Hid (Gap k l) := hg
      clear hg HV
      go_wp2_with fail
      go_ret2
      exact ⟨⟨gv0, false, rfl, Or.inr ⟨rfl, rfl, Hg.out⟩⟩, HT.out⟩
    · injection e2 with e2
      subst e2
      obtain ⟨iv, kv, qs, FF, hP, hK, hFe⟩ := NW_iff.1 hN
      have hsu := (ok_iff h t).1 hok
      have he := sub_even h t hsu.2
      have hsf : Sorted (t.flat h) := by have := Hso.out; rw [hl] at this; exact (List.pairwise_append.1 (List.pairwise_append.1 this).2.1).1
      have q := find_any p t.its k iv kv _ wr hP.nd hP.its (its_sorted t he hsf) (by omega)
      have X1 : Hid (NW h wr p t G ∧ t.ok ∧ l = X ++ (t.flat h ++ Y) ∧ (∀ e ∈ X, Lo k e) ∧ ∀ e ∈ Y, Hi k e) := ⟨hN, hok, hl, hX, hY⟩
      have HP : Hid (FN wr p iv kv t.its qs (Nd.flat h t).length) := hP
      have Hev : Hid (t.even) := he
      subst e1
      clear hN hok hl hX hY hP hK hFe hsu he hsf HV
      go_wp2_with fail
      refine q.mono ?_
      rintro x w1 ⟨⟨i, th, rfl, hF⟩, t1⟩
      have HT1 : Hid (Tch (fun _ => False) w w1) := HT.out.trans' t1
      obtain ⟨hN, hok, hl, hX, hY⟩ := X1.out
      have hP1 := HP.out.tch t1 (fun _ _ h => h)
      cases th with
      | true =>
        obtain ⟨it, hit, hk⟩ := hF.at_ rfl
        obtain ⟨hi, hit2⟩ := List.getElem?_eq_some_iff.1 hit
        obtain ⟨g, ic, ei, -, -, -, -, j1, -⟩ := it_at hP1.its hi
        rw [hit2] at j1
        have c0 := hP1.nd.cells.1
        rw [ei] at c0
        obtain ⟨n, hn⟩ : ∃ n, n = t.its.length := ⟨_, rfl⟩
        rw [← hn] at c0
        have hiI : (i : Int) < n := by omega
        have Hr : Hid (GetRel k l it.2 true) := by
          refine get_of_mem Hso.out ?_
          rw [hl]
          have h1 : it ∈ t.its := hit2 ▸ List.getElem_mem hi
          have h2 := (its_sublist t Hev.out).subset h1
          have e : (k, it.2) = it := by rw [← hk]
          rw [e]
          simp [h2]
        clear hN hok hl hX hY hP1 hF hit hit2 hi hk ei hn t1 q
        go_wp2_with fail
        go_ret2
        exact ⟨⟨it.2, true, rfl, Hr.out⟩, HT1.out⟩
      | false =>
        obtain ⟨v, hv, qk⟩ := Gt.kid (hN.tch t1 (fun _ _ h => h)) hok hl hX hY Hso.out hF
        have hv1 : ∃ a, v = .pointer a := by
          rcases hv with ⟨_, e, _⟩ | ⟨_, _, p, _, _, _, _, e, _⟩
          · exact ⟨_, e⟩
          · exact ⟨_, e⟩
        obtain ⟨a2, rfl⟩ := hv1
        have Hv : Hid (Gt w1 k l h (.pointer a2)) := hv
        clear hN hok hl hX hY hP1 hF t1 hv q
        go_wp2_with (go_at_call 31; refine qk.mono ?_; rintro x w2 ⟨rfl, hwx⟩; subst hwx; clear qk)
        go_roundg h
        case measure => omega
        case rel => exact ⟨a2, rfl, HT1, Hv⟩
theorem at_beyond (w : World) (b : Nat) (ht : Nat) (F : List Nat) (h : TW w b [] ht F) : Calls Try.prog 15 #[pv b, .int .i64 0] w fun x w' => x = .returned (.tuple #[.string ⟨#[]⟩, ev gv0, .bool false]) ∧ w' = w := by
  have q := len_t w b [] ht F h
  clear h
  go_enter Try.func15, Try.ntmps15
  go_wp2_with (go_at_call 13; refine q.mono ?_; rintro x w1 ⟨rfl, rfl⟩)
  refine bodyPost_ret (results_tmp3 (t := 4) (u := 5) (v := 6) (by kernel_rfl) _ _ _) rfl ?_
  exact ⟨rfl, rfl⟩
end Go.Proofs.Ytdbaafigmfclcaa
