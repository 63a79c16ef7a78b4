import Derived.Test.YtnjiiebjdpipjaaTTGet
/- How many items are ahead of a kid; Rank of a tree. -/
namespace Go.Proofs.Ytnjiiebjdpipjaa
open Go.RowKit Go

/-- How many items a kid has, with all under it. -/
def kl : (h : Nat) → Nd It h → Nat → Nat
  | 0, _, _ => 0
  | h + 1, t, i => ((t.2.map (Nd.flat h)).map List.length).getD i 0
def klS (h : Nat) (t : Nd It h) (i : Nat) : Nat := ((List.range i).map (kl h t)).sum
def aheadN (h : Nat) (t : Nd It h) (i : Nat) : Nat := i + klS h t i
theorem klS_succ (h : Nat) (t : Nd It h) (i : Nat) : klS h t (i + 1) = klS h t i + kl h t i := by
  unfold klS
  rw [List.range_succ]
  simp
theorem aheadN_succ (h : Nat) (t : Nd It h) (i : Nat) : aheadN h t (i + 1) = aheadN h t i + (kl h t i + 1) := by
  unfold aheadN
  rw [klS_succ]
  omega
theorem sum_take (L : List Nat) : ∀ i, ((List.range i).map (fun j => L.getD j 0)).sum = (L.take i).sum
  | 0 => by simp
  | i + 1 => by
    rw [List.range_succ, List.map_append, List.sum_append, sum_take L i, List.take_add_one, List.sum_append]
    simp only [List.map_cons, List.map_nil, List.sum_cons, List.sum_nil, List.getD_eq_getElem?_getD]
    cases L[i]? <;> simp
theorem sum_zero : ∀ i, ((List.range i).map (fun _ => 0)).sum = 0
  | 0 => rfl
  | i + 1 => by rw [List.range_succ, List.map_append, List.sum_append, sum_zero i]; rfl
/-- The place of a kid: the node's items, parted; the kid itself. -/
structure Pl (w : World) (h : Nat) (p : Nat) (t : Nd It h) (i : Nat) (v : Option Addr) (A K B : List It) : Prop where
  flat : t.flat h = A ++ (K ++ B)
  alen : A.length = aheadN h t i
  klen : K.length = kl h t i
  item : ∀ it, t.its[i]? = some it → ∃ B', B = it :: B'
  last : i = t.its.length → B = []
  lo : ∀ P : It → Prop, (∀ e e', KL e e' → P e' → P e) → Sorted (t.flat h) → (∀ e ∈ t.its.take i, P e) → ∀ e ∈ A, P e
  hi : ∀ P : It → Prop, (∀ e e', KL e e' → P e → P e') → Sorted (t.flat h) → (∀ e ∈ t.its.drop i, P e) → ∀ e ∈ B, P e
  kid : Calls Try.prog 31 #[pv p, .int .i64 i] w fun x w' => x = .returned (.pointer v) ∧ w' = w
  count : Calls Try.prog 32 #[.pointer v] w fun x w' => x = .returned (.int .i64 (kl h t i)) ∧ w' = w
  down : (h = 0 ∧ v = none ∧ K = []) ∨ ∃ (j : Nat) (kk : Nd It j) (q : Nat) (Fk : List Nat), h = j + 1 ∧ v = some ⟨q, 0, none⟩ ∧ NW j w q kk Fk ∧ kk.ok ∧ K = kk.flat j
theorem pl_any {h : Nat} {w : World} {p : Nat} {t : Nd It h} {G : List Nat} (hN : NW h w p t G) (hok : t.ok) (i : Nat) (hi : i ≤ t.its.length) : ∃ v A K B, Pl w h p t i v A K B := by
  obtain ⟨iv, kv, qs, FF, hP, hK, rfl⟩ := NW_iff.1 hN
  have hsu := (ok_iff h t).1 hok
  have he := sub_even h t hsu.2
  cases h with
  | zero =>
    have e : qs = [] := hK.1
    subst e
    have h0 : t.flat 0 = t.its.take i ++ t.its.drop i := (List.take_append_drop i t.its).symm
    have hz : aheadN 0 t i = i := by unfold aheadN klS; have := sum_zero i; show i + ((List.range i).map (fun _ => 0)).sum = i; omega
    refine ⟨none, t.its.take i, [], t.its.drop i, ⟨by rw [List.nil_append]; exact h0, by rw [hz, List.length_take]; omega, rfl, fun it hit => ?_, fun e => by rw [e]; exact List.drop_length, fun P _ _ h => h, fun P _ _ h => h, kid_none p i iv kv _ _ w hP, count_nil w, Or.inl ⟨rfl, rfl, rfl⟩⟩⟩
    obtain ⟨h1, h2⟩ := List.getElem?_eq_some_iff.1 hit
    exact ⟨t.its.drop (i + 1), by rw [List.drop_eq_getElem_cons h1, h2]⟩
  | succ h =>
    have hi' : i ≤ t.1.length := hi
    obtain ⟨ka, kb, kk, et, hka, hkb, hma, hmb, hmk⟩ := node_at t i hi he
    have hA : (t.1.take i).length = i := by rw [List.length_take]; omega
    have hfl : Nd.flat (h + 1) t = mix (t.1.take i) (ka.map (Nd.flat h) ++ [[]]) ++ (kk.flat h ++ mix (t.1.drop i) ([] :: kb.map (Nd.flat h))) := by
      have h8 := kid_mid h (t.1.take i) (t.1.drop i) ka kb kk (by omega)
      rw [← et] at h8
      exact h8
    have e2 : t.2 = ka ++ kk :: kb := congrArg Prod.snd et
    have hN' : KidsOf (NW h w) (ka ++ kk :: kb) qs FF := by
      have hk : KidsOf (NW h w) t.2 qs FF := hK
      rw [e2] at hk
      exact hk
    obtain ⟨k1, k2, q, Fk, rfl, rfl, hk1, hk2, hq, h1, h2⟩ := kids_at hN'
    have hki : (kP k1 ++ q :: kP k2)[i]? = some q := by rw [List.getElem?_append_right (by rw [kP_len, ← hk1]; omega), kP_len, ← hk1, hka, Nat.sub_self]; rfl
    obtain ⟨hilt, hki2⟩ := List.getElem?_eq_some_iff.1 hki
    have h15 : t.1.length ≤ 15 := hsu.1
    have hkid := kid_some p i iv kv _ _ _ w hP hilt (by simp only [List.length_append, List.length_cons, kP_len, ← hk1, ← hk2]; omega)
    rw [hki2] at hkid
    have hkl : kl (h + 1) t i = (kk.flat h).length := by
      show ((t.2.map (Nd.flat h)).map List.length).getD i 0 = _
      rw [e2, List.getD_eq_getElem?_getD, List.map_append, List.map_append, List.getElem?_append_right (by simp [hka])]
      simp [hka]
    have hah : aheadN (h + 1) t i = i + ((ka.map (Nd.flat h)).map List.length).sum := by
      unfold aheadN klS
      have h9 := sum_take ((t.2.map (Nd.flat h)).map List.length) i
      have h10 : ((t.2.map (Nd.flat h)).map List.length).take i = (ka.map (Nd.flat h)).map List.length := by
        rw [e2, List.map_append, List.map_append, List.take_append_of_le_length (by simp [hka]), List.take_of_length_le (by simp [hka])]
      rw [h10] at h9
      rw [← h9]
      rfl
    refine ⟨some ⟨q, 0, none⟩, mix (t.1.take i) (ka.map (Nd.flat h) ++ [[]]), kk.flat h, mix (t.1.drop i) ([] :: kb.map (Nd.flat h)), ⟨hfl, ?_, hkl.symm, fun it hit => ?_, fun e => ?_, fun P hP1 hs hl => ?_, fun P hP1 hs hl => ?_, hkid, ?_, Or.inr ⟨h, kk, q, Fk, rfl, rfl, hq, (hsu.2.2 kk hmk).1, rfl⟩⟩⟩
    · rw [ahead_len _ _ (by rw [List.length_map]; omega), hah, hA]
    · obtain ⟨h3, h4⟩ := List.getElem?_eq_some_iff.1 hit
      have h3' : i < t.1.length := h3
      have h4' : t.1[i] = it := h4
      rw [List.drop_eq_getElem_cons h3', h4']
      exact ⟨_, rfl⟩
    · have e' : i = t.1.length := e
      rw [e', List.drop_length]
      rfl
    · rw [hfl] at hs
      exact ahead_all KL P hP1 (t.1.take i) (ka.map (Nd.flat h)) (by rw [List.length_map]; omega) (List.pairwise_append.mp hs).1 hl
    · rw [hfl] at hs
      exact behind_all KL P hP1 (t.1.drop i) (kb.map (Nd.flat h)) (List.pairwise_append.mp (List.pairwise_append.mp hs).2.1).2.1 hl
    · rw [hkl]
      exact count_any q _ w hq.size.1
theorem Pl.sum {w : World} {h p : Nat} {t : Nd It h} {i : Nat} {v : Option Addr} {A K B : List It} (h1 : Pl w h p t i v A K B) : (t.flat h).length = aheadN h t i + (kl h t i + B.length) := by
  rw [h1.flat, List.length_append, List.length_append, h1.alen, h1.klen]
set_option maxHeartbeats 2000000 in
set_option maxRecDepth 100000 in
theorem ahead_any {h : Nat} {w : World} {p : Nat} {t : Nd It h} {G : List Nat} (hN : NW h w p t G) (hok : t.ok) (i : Nat) (hi : i ≤ t.its.length) (hb : (t.flat h).length ≤ 1000000000000000000) : Calls Try.prog 71 #[pv p, .int .i64 i] w fun x w' => x = .returned (.int .i64 (aheadN h t i)) ∧ w' = w := by
  have HP : Hid (∀ j, j ≤ t.its.length → ∃ v A K B, Pl w h p t j v A K B) := fun j hj => pl_any hN hok j hj
  have h15 : t.its.length ≤ 15 := ((ok_iff h t).1 hok).1
  have Hb : Hid ((t.flat h).length ≤ 1000000000000000000) := hb
  have Hi : Hid (i ≤ t.its.length) := hi
  have hiI : (i : Int) ≤ 15 := by omega
  clear hN hok hb h15 hi
  go_enter Try.func71, Try.ntmps71
  go_wp2_with fail
  go_loopw [5, 9] (fun s5 s9 wr => ∃ (j s : Nat), s5 = .int .i64 s ∧ s9 = .int .i64 j ∧ j ≤ i ∧ Hid (s = i + klS h t j) ∧ wr = w) (fun _ s9 _ => i - (intOf s9).toNat)
  case atStart => exact ⟨0, i, rfl, rfl, by omega, (rfl : i = i + klS h t 0), rfl⟩
  case round =>
    obtain ⟨j, s, rfl, rfl, hj, HS, rfl⟩ := hrel
    by_cases hlt : (j : Int) < i
    · obtain ⟨v, A, K, B, hpl⟩ := HP.out j (by have := Hi.out; omega)
      obtain ⟨c, hc⟩ : ∃ c, c = kl h t j := ⟨_, rfl⟩
      have q1 := hpl.kid
      have q2 := hpl.count
      rw [← hc] at q2
      have hsum := hpl.sum
      have hS' := HS.out
      have hbb := Hb.out
      have hcI : (c : Int) ≤ 1000000000000000000 := by unfold aheadN at hsum; omega
      have hsI : (s : Int) ≤ 1000000000000000015 := by unfold aheadN at hsum; omega
      have HN : Hid (s + c = i + klS h t (j + 1)) := by
        show s + c = i + klS h t (j + 1)
        rw [klS_succ, ← hc]; omega
      clear hpl hsum hS' hbb hc
      go_wp2_with (first
        | (go_at_call 31; refine q1.mono ?_; rintro x w6 ⟨rfl, hw⟩; subst hw)
        | (go_at_call 32; refine q2.mono ?_; rintro x w6 ⟨rfl, hw⟩; subst hw))
      go_roundw
      case measure => simp [intOf]; omega
      case rel => exact ⟨j + 1, s + c, by go_num, by go_num, by omega, HN, trivial⟩
    · obtain rfl : j = i := by omega
      go_wp2_with fail
      go_ret
      refine ⟨?_, rfl⟩
      rw [HS.out]
      rfl
/-- How many are below a key. -/
def RankRel (k : ByteArray) (l : List It) (r : Nat) : Prop := ∃ X Y, l = X ++ Y ∧ X.length = r ∧ (∀ e ∈ X, Lo k e) ∧ ∀ e ∈ Y, ¬ Lo k e
def Gr (w : World) (k : ByteArray) (l : List It) (j : Nat) (v : Value) (r : Nat) : Prop := (j = 0 ∧ v = .pointer none ∧ RankRel k l r) ∨ ∃ (h : Nat) (t : Nd It h) (p : Nat) (G X Y : List _), j = h + 1 ∧ v = pv p ∧ NW h w p t G ∧ t.ok ∧ l = X ++ (t.flat h ++ Y) ∧ (∀ e ∈ X, Lo k e) ∧ (∀ e ∈ Y, Hi k e) ∧ X.length = r
theorem Hi.not {k : ByteArray} {e : It} (h : Hi k e) : ¬ Lo k e := by unfold Hi at h; unfold Lo; omega
theorem rank_found {k : ByteArray} {l X Y : List It} {it : It} (hl : l = X ++ it :: Y) (hs : Sorted l) (hk : it.1 = k) : RankRel k l X.length := by
  subst hl
  obtain ⟨_, p2, p3⟩ := List.pairwise_append.1 hs
  refine ⟨X, it :: Y, rfl, rfl, fun e he => ?_, fun e he => ?_⟩
  · have := p3 e he it (by simp)
    unfold KL at this
    unfold Lo
    rw [← hk]; exact this
  · rcases List.mem_cons.1 he with rfl | he
    · unfold Lo; rw [hk]; have := kc_self k; omega
    · have h3 := (List.pairwise_cons.1 p2).1 e he
      unfold KL at h3
      rw [hk] at h3
      have := kc_flip k e.1
      unfold Lo
      omega
set_option maxHeartbeats 2000000 in
set_option maxRecDepth 100000 in
theorem rank_t (w : World) (b : Nat) (l : List It) (ht : Nat) (F : List Nat) (k : ByteArray) (h : TW w b l ht F) (hb : l.length ≤ 1000000000000000000) : Calls Try.prog 48 #[pv b, .string k] w fun x w' => (∃ r : Nat, x = .returned (.int .i64 r) ∧ RankRel k l r) ∧ Tch (fun _ => False) w w' := by
  obtain ⟨v, c0, HV⟩ : ∃ v, w.cell? ⟨b, 0, none⟩ = some v ∧ Hid (Gr w k l ht v 0) := by
    obtain ⟨h1, h2, ⟨rfl, rfl, rfl, hbk⟩ | ⟨h, t, p, G, rfl, hbk, hN, h3, h4, rfl, rfl⟩⟩ := h
    · exact ⟨_, by rw [blk_cell hbk]; rfl, Or.inl ⟨rfl, rfl, [], [], rfl, rfl, by simp, by simp⟩⟩
    · exact ⟨_, by rw [blk_cell hbk]; rfl, Or.inr ⟨h, t, p, G, [], [], rfl, rfl, hN, h3, by simp, by simp, by simp, rfl⟩⟩
  have Hso : Hid (Sorted l) := h.2.1
  have Hlen : Hid (l.length ≤ 1000000000000000000) := hb
  have hv1 : ∃ a, v = .pointer a := by
    rcases HV.out with ⟨_, e, _⟩ | ⟨_, _, p, _, _, _, _, e, _⟩
    · exact ⟨_, e⟩
    · exact ⟨_, e⟩
  obtain ⟨a, rfl⟩ := hv1
  clear h hb
  go_enter Try.func48, Try.ntmps48
  go_wp2_with fail
  clear c0
  go_loopg [5, 6] ht (fun kx s5 s6 wr => ∃ (a : Option Addr) (r : Nat), s6 = .pointer a ∧ s5 = .int .i64 r ∧ Hid (Tch (fun _ => False) w wr) ∧ Hid (Gr wr k l kx (.pointer a) r))
  case atStart => exact ⟨a, 0, rfl, rfl, Tch.refl _ _, HV⟩
  case round =>
    clear HV
    obtain ⟨a', r, rfl, rfl, HT, HV⟩ := hrel
    rcases HV.out with ⟨e1, e2, hg⟩ | ⟨h, t, p, G, X, Y, e1, e2, hN, hok, hl, hX, hY, hr⟩
    · injection e2 with e2
      subst e2
      have Hg : Hid (RankRel k l r) := hg
      clear hg HV
      go_wp2_with fail
      go_ret
      exact ⟨⟨r, rfl, Hg.out⟩, HT.out⟩
    · injection e2 with e2
      subst e2
      obtain ⟨iv, kv, qs, FF, hP, hK, hFe⟩ := NW_iff.1 hN
      have hsu := (ok_iff h t).1 hok
      have he := sub_even h t hsu.2
      have hsf : Sorted (t.flat h) := by have := Hso.out; rw [hl] at this; exact (List.pairwise_append.1 (List.pairwise_append.1 this).2.1).1
      have q := find_any p t.its k iv kv _ wr hP.nd hP.its (its_sorted t he hsf) (by omega)
      have X1 : Hid (NW h wr p t G ∧ t.ok ∧ l = X ++ (t.flat h ++ Y) ∧ (∀ e ∈ X, Lo k e) ∧ (∀ e ∈ Y, Hi k e) ∧ X.length = r ∧ Sorted (t.flat h)) := ⟨hN, hok, hl, hX, hY, hr, hsf⟩
      subst e1
      clear hN hok hl hX hY hr hP hK hFe hsu he hsf HV
      go_wp2_with fail
      refine q.mono ?_
      rintro x w1 ⟨⟨i, th, rfl, hF⟩, t1⟩
      have HT1 : Hid (Tch (fun _ => False) w w1) := HT.out.trans' t1
      obtain ⟨hN, hok, hl, hX, hY, hr, hsf⟩ := X1.out
      have hN1 := hN.tch t1 (fun _ _ h => h)
      obtain ⟨v2, A, K, B, hpl⟩ := pl_any hN1 hok i hF.le
      have hL := Hlen.out
      have hLl : l.length = X.length + ((t.flat h).length + Y.length) := by rw [hl]; simp
      have qa := ahead_any hN1 hok i hF.le (by omega)
      have hsum := hpl.sum
      obtain ⟨n, hn⟩ : ∃ n, n = aheadN h t i := ⟨_, rfl⟩
      obtain ⟨c, hc⟩ : ∃ c, c = kl h t i := ⟨_, rfl⟩
      have q1 := hpl.kid
      have q2 := hpl.count
      rw [← hc] at q2
      rw [← hn] at qa
      have hnI : (n : Int) ≤ 1000000000000000000 := by omega
      have hcI : (c : Int) ≤ 1000000000000000000 := by omega
      have hrI : (r : Int) ≤ 1000000000000000000 := by omega
      cases th with
      | true =>
        obtain ⟨it, hit, hk⟩ := hF.at_ rfl
        obtain ⟨B', rfl⟩ := hpl.item it hit
        have Hr : Hid (RankRel k l (r + n + c)) := by
          have h9 := rank_found (X := X ++ (A ++ K)) (Y := B' ++ Y) (it := it) (k := k) (l := l) (by rw [hl, hpl.flat]; simp) Hso.out hk
          have e : (X ++ (A ++ K)).length = r + n + c := by simp only [List.length_append, hpl.alen, hpl.klen, hr, hn, hc]; omega
          rw [e] at h9
          exact h9
        clear hN hN1 hok hl hX hY hpl hF hit hk t1 q hL hLl hsum hn hc hr hsf
        go_wp2_with (first
          | (go_at_call 71; refine qa.mono ?_; rintro x w6 ⟨rfl, hw⟩; subst hw; clear qa)
          | (go_at_call 31; refine q1.mono ?_; rintro x w6 ⟨rfl, hw⟩; subst hw; clear q1)
          | (go_at_call 32; refine q2.mono ?_; rintro x w6 ⟨rfl, hw⟩; subst hw; clear q2))
        go_ret
        exact ⟨⟨r + n + c, by go_num, Hr.out⟩, HT1.out⟩
      | false =>
        have hXA : ∀ e ∈ X ++ A, Lo k e := fun e he => (List.mem_append.1 he).elim (hX e) (hpl.lo (Lo k) (fun e e' => Lo.of) hsf hF.lo e)
        have hYB : ∀ e ∈ B ++ Y, Hi k e := fun e he => (List.mem_append.1 he).elim (hpl.hi (Hi k) (fun e e' => Hi.of) hsf (hF.hi rfl) e) (hY e)
        have Hv : Hid (Gr w1 k l h (.pointer v2) (r + n)) := by
          have e : (X ++ A).length = r + n := by rw [List.length_append, hpl.alen, hr, hn]
          rcases hpl.down with ⟨d1, d2, d3⟩ | ⟨j, kk, q0, Fk, d1, d2, d3, d4, d5⟩
          · exact Or.inl ⟨d1, by rw [d2], X ++ A, B ++ Y, by rw [hl, hpl.flat, d3]; simp, e, hXA, fun e he => (hYB e he).not⟩
          · exact Or.inr ⟨j, kk, q0, Fk, X ++ A, B ++ Y, d1, by rw [d2], d3, d4, by rw [hl, hpl.flat, d5]; simp, hXA, hYB, e⟩
        clear hN hN1 hok hl hX hY hpl hF t1 q hL hLl hsum hn hc hr hsf hXA hYB q2
        go_wp2_with (first
          | (go_at_call 71; refine qa.mono ?_; rintro x w6 ⟨rfl, hw⟩; subst hw; clear qa)
          | (go_at_call 31; refine q1.mono ?_; rintro x w6 ⟨rfl, hw⟩; subst hw; clear q1))
        go_roundg h
        case measure => omega
        case rel => exact ⟨v2, r + n, rfl, by go_num, HT1, Hv⟩
end Go.Proofs.Ytnjiiebjdpipjaa
/- The item at a place: at, At. -/
namespace Go.Proofs.Ytnjiiebjdpipjaa
open Go.RowKit Go

theorem rs_at : Try.f34.results = #[.cell 4 74] := by kernel_rfl
set_option maxHeartbeats 4000000 in
set_option maxRecDepth 100000 in
theorem at_step (h : Nat) (w : World) (p : Nat) (t : Nd It h) (F : List Nat) (k : Nat) (hN : NW h w p t F) (hok : t.ok) (hk : k < (t.flat h).length) (hb : (t.flat h).length ≤ 1000000000000000000)
    (IH : ∀ (j : Nat) (W : World) (q : Nat) (kk : Nd It j) (Fk : List Nat) (k : Nat), h = j + 1 → NW j W q kk Fk → kk.ok → k < (kk.flat j).length → (kk.flat j).length ≤ 1000000000000000000 → Calls Try.prog 34 #[pv q, .int .i64 k] W fun x w' => ∃ it, (kk.flat j)[k]? = some it ∧ x = .returned (itV it) ∧ Tch (fun _ => False) W w') :
    Calls Try.prog 34 #[pv p, .int .i64 k] w fun x w' => ∃ it, (t.flat h)[k]? = some it ∧ x = .returned (itV it) ∧ Tch (fun _ => False) w w' := by
  obtain ⟨B, hB⟩ : ∃ B, B = w.heap.size := ⟨_, rfl⟩
  obtain ⟨w0, hw0⟩ : ∃ w0, w0 = w.alloc (.cells #[.string ⟨#[]⟩, ev gv0] 74) := ⟨_, rfl⟩
  have t0 : Tch (fun _ => False) w w0 := by rw [hw0]; exact Tch.alloc _ _ _
  have hB0 : w0.heap[B]? = some (.cells #[.string ⟨#[]⟩, ev gv0] 74 (0, 0)) := by rw [hw0, hB]; exact alloc_new _ _
  have hN0 := hN.tch t0 (fun _ _ h => h)
  have h15 : t.its.length ≤ 15 := ((ok_iff h t).1 hok).1
  have HP : Hid (∀ j, j ≤ t.its.length → ∃ v A K B, Pl w0 h p t j v A K B) := fun j hj => pl_any hN0 hok j hj
  have Hb : Hid ((t.flat h).length ≤ 1000000000000000000) := hb
  have Hk : Hid (k < (t.flat h).length) := hk
  have H15 : Hid (t.its.length ≤ 15) := h15
  have HIH : Hid (∀ (j : Nat) (W : World) (q : Nat) (kk : Nd It j) (Fk : List Nat) (k : Nat), h = j + 1 → NW j W q kk Fk → kk.ok → k < (kk.flat j).length → (kk.flat j).length ≤ 1000000000000000000 → Calls Try.prog 34 #[pv q, .int .i64 k] W fun x w' => ∃ it, (kk.flat j)[k]? = some it ∧ x = .returned (itV it) ∧ Tch (fun _ => False) W w') := IH
  have Hn0 : Hid (NW h w0 p t F) := hN0
  have Hw0 : Hid (w0 = w.alloc (.cells #[.string ⟨#[]⟩, ev gv0] 74)) := hw0
  have HB : Hid (B = w.heap.size) := hB
  have HB0 : Hid (w0.heap[B]? = some (.cells #[.string ⟨#[]⟩, ev gv0] 74 (0, 0))) := hB0
  have HT0 : Hid (Tch (fun _ => False) w w0) := t0
  have hkI : (k : Int) ≤ 1000000000000000000 := by omega
  clear hN hN0 hok hk hb IH h15 t0 hB0 hw0 hB
  go_enter Try.func34, Try.ntmps34
  go_wp2_with fail
  have hw := Hw0.out
  rw [← hw, ← HB.out]
  clear hw
  go_loopw [1, 5] (fun s1 s5 wr => ∃ (i c : Nat), s1 = .int .i64 c ∧ s5 = .int .i64 i ∧ Hid (aheadN h t i + c = k) ∧ Hid (i ≤ t.its.length) ∧ wr = w0) (fun _ s5 _ => t.its.length - (intOf s5).toNat)
  case atStart => exact ⟨0, k, rfl, rfl, (show 0 + 0 + k = k by omega), Nat.zero_le _, rfl⟩
  case round =>
    obtain ⟨i, c, rfl, rfl, HA, HI, rfl⟩ := hrel
    obtain ⟨v, A, K, Z, hpl⟩ := HP.out i HI.out
    obtain ⟨n, hn⟩ : ∃ n, n = kl h t i := ⟨_, rfl⟩
    have q1 := hpl.kid
    have q2 := hpl.count
    rw [← hn] at q2
    have hsum := hpl.sum
    rw [← hn] at hsum
    have hA := HA.out
    have hbb := Hb.out
    have hkk := Hk.out
    have hii := HI.out
    have h15 := H15.out
    have hcI : (c : Int) ≤ 1000000000000000000 := by omega
    have hnI : (n : Int) ≤ 1000000000000000000 := by omega
    have hiI : (i : Int) ≤ 15 := by omega
    by_cases hlt : (n : Int) < c
    · have hi1 : i < t.its.length := by
        rcases Nat.lt_or_ge i t.its.length with h8 | h8
        · exact h8
        · have := hpl.last (by omega)
          rw [this] at hsum
          simp at hsum
          omega
      have HN : Hid (aheadN h t (i + 1) + (c - (n + 1)) = k) := by
        show aheadN h t (i + 1) + (c - (n + 1)) = k
        rw [aheadN_succ, ← hn]
        omega
      have HN2 : Hid (i + 1 ≤ t.its.length) := hi1
      have HM : Hid (t.its.length - (i + 1) < t.its.length - i) := by show _ < _; omega
      clear hpl hsum hA hbb hkk hii h15 hn hi1
      go_wp2_with (first
        | (go_at_call 31; refine q1.mono ?_; rintro x w6 ⟨rfl, hw⟩; subst hw)
        | (go_at_call 32; refine q2.mono ?_; rintro x w6 ⟨rfl, hw⟩; subst hw))
      go_roundw
      case measure => have := HM.out; simp [intOf]; omega
      case rel => exact ⟨i + 1, c - (n + 1), by go_num, by go_num, HN, HN2, trivial⟩
    · by_cases hlt2 : (c : Int) < n
      · obtain ⟨j, kk, q, Fk, hj, hv, hNk, hokk, hKe⟩ : ∃ (j : Nat) (kk : Nd It j) (q : Nat) (Fk : List Nat), h = j + 1 ∧ v = some ⟨q, 0, none⟩ ∧ NW j wr q kk Fk ∧ kk.ok ∧ K = kk.flat j := by
          rcases hpl.down with ⟨_, _, e⟩ | e
          · have := hpl.klen
            rw [e, ← hn] at this
            simp at this
            omega
          · exact e
        have hkl := hpl.klen
        rw [← hn, hKe] at hkl
        have q3 := HIH.out j wr q kk Fk c hj hNk hokk (by omega) (by omega)
        have HG : Hid (∀ it, (kk.flat j)[c]? = some it → (t.flat h)[k]? = some it) := fun it hit => by
          rw [hpl.flat, ← hA, ← hpl.alen, List.getElem?_append_right (by omega), Nat.add_sub_cancel_left, hKe, List.getElem?_append_left (by omega)]
          exact hit
        subst hv
        clear hpl hsum hA hbb hkk hii h15 hn hNk hokk hKe hkl hj
        go_wp2_with (first
          | (go_at_call 31; refine q1.mono ?_; rintro x w6 ⟨rfl, hw⟩; subst hw)
          | (go_at_call 32; refine q2.mono ?_; rintro x w6 ⟨rfl, hw⟩; subst hw))
        refine q3.mono ?_
        rintro x w7 ⟨it, hit, rfl, t7⟩
        have hit2 := HG.out it hit
        have hB7 : w7.heap[B]? = some (.cells #[.string ⟨#[]⟩, ev gv0] 74 (0, 0)) := by rw [t7.block B (blk_lt HB0.out) (fun h => h)]; exact HB0.out
        have y0 : w7.cell? ⟨B, 0, none⟩ = some (.string ⟨#[]⟩) := by rw [blk_cell hB7]; rfl
        have y1 : w7.cell? ⟨B, 1, none⟩ = some (ev gv0) := by rw [blk_cell hB7]; rfl
        have y2 := blk_frozen hB7 0
        have y3 := blk_frozen hB7 1
        have HB7 : Hid (w7.heap[B]? = some (.cells #[.string ⟨#[]⟩, ev gv0] 74 (0, 0))) := hB7
        have HT7 : Hid (Tch (fun _ => False) w w7) := HT0.out.trans' t7
        have Hit : Hid ((t.flat h)[k]? = some it) := hit2
        clear hit hit2 t7 hB7 q1 q2 q3
        go_wp2_with fail
        refine bodyPost_ret (res_it rs_at rfl (set2 HB7.out)) rfl ?_
        exact ⟨it, Hit.out, rfl, HT7.out.trans (set2_tch w7 B (.string it.1) (ev it.2)) (fun i hi e => by have := HB.out; omega)⟩
      · have hcn : c = n := by omega
        have hi1 : i < t.its.length := by
          rcases Nat.lt_or_ge i t.its.length with h8 | h8
          · exact h8
          · have := hpl.last (by omega)
            rw [this] at hsum
            simp at hsum
            omega
        obtain ⟨it, hit⟩ : ∃ it, t.its[i]? = some it := ⟨t.its[i], List.getElem?_eq_getElem hi1⟩
        obtain ⟨Z', hZ⟩ := hpl.item it hit
        obtain ⟨_, hit2⟩ := List.getElem?_eq_some_iff.1 hit
        obtain ⟨iv, kv, qs, FF, hP, hK, hFe⟩ := NW_iff.1 Hn0.out
        obtain ⟨g, ic, ei, -, -, -, j0, j1, -⟩ := it_at hP.its hi1
        rw [hit2] at j0 j1
        have c0 := hP.nd.cells.1
        rw [ei] at c0
        have Hit : Hid ((t.flat h)[k]? = some it) := by
          show (t.flat h)[k]? = some it
          have hkl := hpl.klen
          rw [hpl.flat, ← hA, ← hpl.alen, List.getElem?_append_right (by omega), Nat.add_sub_cancel_left, List.getElem?_append_right (by omega), show c - K.length = 0 by omega, hZ]
          rfl
        obtain ⟨m, hm⟩ : ∃ m, m = t.its.length := ⟨_, rfl⟩
        rw [← hm] at c0
        have hmI : (i : Int) < m := by omega
        have hB7 := HB0.out
        have y0 : wr.cell? ⟨B, 0, none⟩ = some (.string ⟨#[]⟩) := by rw [blk_cell hB7]; rfl
        have y1 : wr.cell? ⟨B, 1, none⟩ = some (ev gv0) := by rw [blk_cell hB7]; rfl
        have y2 := blk_frozen hB7 0
        have y3 := blk_frozen hB7 1
        subst hcn
        clear hpl hsum hA hbb hkk hii h15 hn hit hit2 hZ hP hK hFe ei hB7 hm hi1
        go_wp2_with (first
          | (go_at_call 31; refine q1.mono ?_; rintro x w6 ⟨rfl, hw⟩; subst hw)
          | (go_at_call 32; refine q2.mono ?_; rintro x w6 ⟨rfl, hw⟩; subst hw))
        refine bodyPost_ret (res_it rs_at rfl (set2 HB0.out)) rfl ?_
        exact ⟨it, Hit.out, rfl, HT0.out.trans (set2_tch _ B (.string it.1) (ev it.2)) (fun i hi e => by have := HB.out; omega)⟩
theorem at_any : ∀ (h : Nat) (w : World) (p : Nat) (t : Nd It h) (F : List Nat) (k : Nat), NW h w p t F → t.ok → k < (t.flat h).length → (t.flat h).length ≤ 1000000000000000000 → Calls Try.prog 34 #[pv p, .int .i64 k] w fun x w' => ∃ it, (t.flat h)[k]? = some it ∧ x = .returned (itV it) ∧ Tch (fun _ => False) w w'
  | 0, w, p, t, F, k, a, b, c, d => at_step 0 w p t F k a b c d (fun j _ _ _ _ _ e => by omega)
  | h + 1, w, p, t, F, k, a, b, c, d => at_step (h + 1) w p t F k a b c d (fun j W q kk Fk k e => by
      obtain rfl : h = j := by omega
      exact at_any h W q kk Fk k)
set_option maxHeartbeats 2000000 in
set_option maxRecDepth 100000 in
theorem at_in (w : World) (b : Nat) (l : List It) (ht : Nat) (F : List Nat) (n : Nat) (h : TW w b l ht F) (hb : l.length ≤ 1000000000000000000) (hk : n < l.length) : Calls Try.prog 15 #[pv b, .int .i64 n] w fun x w' => (∃ it, l[n]? = some it ∧ x = .returned (.tuple #[.string it.1, ev it.2, .bool true])) ∧ Tch (fun _ => False) w w' := by
  have q := len_t w b l ht F h
  obtain ⟨h1, h2, ⟨rfl, rfl, rfl, hbk⟩ | ⟨h, t, p, G, rfl, hbk, hN, h3, h4, hfl, rfl⟩⟩ := h
  · exact absurd hk (by simp)
  · have c0 : w.cell? ⟨b, 0, none⟩ = some (pv p) := by rw [blk_cell hbk]; rfl
    have q2 := at_any h w p t G n hN h3 (by rw [hfl]; omega) (by rw [hfl]; exact hb)
    rw [hfl] at q2
    obtain ⟨ln, hln⟩ : ∃ ln, ln = l.length := ⟨_, rfl⟩
    rw [← hln] at q
    have hkI : (n : Int) < ln := by omega
    clear h1 h2 hbk hN h3 h4 hfl hk hb hln
    go_enter Try.func15, Try.ntmps15
    go_wp2_with (go_at_call 13; refine q.mono ?_; rintro x w1 ⟨rfl, hw⟩; subst hw)
    refine q2.mono ?_
    rintro x w7 ⟨it, hit, rfl, t7⟩
    have Hit : Hid (l[n]? = some it) := hit
    have HT : Hid (Tch (fun _ => False) w1 w7) := t7
    clear hit t7 q q2
    go_wp2_with fail
    obtain ⟨w8, hw8⟩ : ∃ w8, w8 = w7.alloc (.cells #[.string it.1, ev it.2] 74) := ⟨_, rfl⟩
    obtain ⟨B, hB⟩ : ∃ B, B = w7.heap.size := ⟨_, rfl⟩
    have hB8 : w8.heap[B]? = some (.cells #[.string it.1, ev it.2] 74 (0, 0)) := by rw [hw8, hB]; exact alloc_new _ _
    have x0 : w8.cell? ⟨B, 0, none⟩ = some (.string it.1) := by rw [blk_cell hB8]; rfl
    have x1 : w8.cell? ⟨B, 1, none⟩ = some (ev it.2) := by rw [blk_cell hB8]; rfl
    have HT8 : Hid (Tch (fun _ => False) w1 w8) := by rw [hw8]; exact HT.out.trans' (Tch.alloc _ _ _)
    rw [← hw8, ← hB]
    clear hw8 hB hB8
    go_quiet (fail)
    go_wp2_with fail
    refine bodyPost_ret (results_tmp3 (t := 4) (u := 5) (v := 6) (by kernel_rfl) _ _ _) rfl ?_
    exact ⟨⟨it, Hit.out, rfl⟩, HT8.out.drewN _⟩
set_option maxHeartbeats 2000000 in
set_option maxRecDepth 100000 in
theorem at_out (w : World) (b : Nat) (l : List It) (ht : Nat) (F : List Nat) (k : Int) (h : TW w b l ht F) (hkI : k < 0 ∨ (l.length : Int) ≤ k) : Calls Try.prog 15 #[pv b, .int .i64 k] w fun x w' => x = .returned (.tuple #[.string ⟨#[]⟩, ev gv0, .bool false]) ∧ w' = w := by
  have q := len_t w b l ht F h
  obtain ⟨ln, hln⟩ : ∃ ln, ln = l.length := ⟨_, rfl⟩
  rw [← hln] at q hkI
  clear h hln
  rcases hkI with hkI | hkI
  · go_enter Try.func15, Try.ntmps15
    go_wp2_with fail
    refine bodyPost_ret (results_tmp3 (t := 4) (u := 5) (v := 6) (by kernel_rfl) _ _ _) rfl ?_
    exact ⟨rfl, rfl⟩
  · have hk0 : 0 ≤ k := by omega
    go_enter Try.func15, Try.ntmps15
    go_wp2_with (go_at_call 13; refine q.mono ?_; rintro x w1 ⟨rfl, rfl⟩)
    refine bodyPost_ret (results_tmp3 (t := 4) (u := 5) (v := 6) (by kernel_rfl) _ _ _) rfl ?_
    exact ⟨rfl, rfl⟩
end Go.Proofs.Ytnjiiebjdpipjaa
/- Where a span begins in a node and where it ends. -/
namespace Go.Proofs.Ytnjiiebjdpipjaa
open Go.RowKit Go

/-- The place of a span's end. -/
def EndAt (l : List It) (k : ByteArray) (j : Nat) : Prop := (k = ⟨#[]⟩ ∧ j = l.length) ∨ (k ≠ ⟨#[]⟩ ∧ ∃ th, Found l k j th)
abbrev spV (f t : ByteArray) (b : Bool) : Value := .agg #[.string f, .string t, .bool b]
set_option maxHeartbeats 2000000 in
set_option maxRecDepth 100000 in
theorem ends_any {h : Nat} {w : World} {p : Nat} {t : Nd It h} {G : List Nat} (hN : NW h w p t G) (hok : t.ok) (hs : Sorted (t.flat h)) (f o : ByteArray) (b : Bool) :
    Calls Try.prog 95 #[pv p, spV f o b] w fun x w' => (∃ (i j : Nat), x = .returned (.tuple #[.int .i64 ((2 * i : Nat) : Int), .int .i64 ((2 * j : Nat) : Int)]) ∧ (∃ th, Found t.its f i th) ∧ EndAt t.its o j) ∧ Tch (fun _ => False) w w' := by
  have hsu := (ok_iff h t).1 hok
  have he := sub_even h t hsu.2
  have h15 := hsu.1
  obtain ⟨iv, kv, qs, FF, hP, hK, hFe⟩ := NW_iff.1 hN
  have HF : Hid (∀ W, Tch (fun _ => False) w W → ∀ k, Calls Try.prog 50 #[.pointer (some ⟨p, 0, none⟩), .string k] W fun x w' => (∃ (i : Nat) (th : Bool), x = .returned (.tuple #[.int .i64 i, .bool th]) ∧ Found t.its k i th) ∧ Tch (fun _ => False) W w') := fun W tc k => by
    have hP1 := hP.tch tc (fun _ _ h => h)
    exact find_any p t.its k iv kv _ W hP1.nd hP1.its (its_sorted t he hs) (by omega)
  have HC : Hid (∀ W, Tch (fun _ => False) w W → ∃ ao c, W.cell? ⟨p, 0, none⟩ = some (.slice ao t.its.length c)) := fun W tc => by
    have hP1 := hP.tch tc (fun _ _ h => h)
    obtain ⟨ao, c, hv⟩ := row_slice hP1.its
    have := hP1.nd.cells.1
    rw [hv] at this
    exact ⟨ao, c, this⟩
  obtain ⟨w0, hw0⟩ : ∃ w0, w0 = w.alloc (.cells #[.string f, .string o, .bool b] 90) := ⟨_, rfl⟩
  obtain ⟨B, hB⟩ : ∃ B, B = w.heap.size := ⟨_, rfl⟩
  have t0 : Tch (fun _ => False) w w0 := by rw [hw0]; exact Tch.alloc _ _ _
  have hB0 : w0.heap[B]? = some (.cells #[.string f, .string o, .bool b] 90 (0, 0)) := by rw [hw0, hB]; exact alloc_new _ _
  have x0 : w0.cell? ⟨B, 0, none⟩ = some (.string f) := by rw [blk_cell hB0]; rfl
  have q := HF.out w0 t0 f
  have HB0 : Hid (w0.heap[B]? = some (.cells #[.string f, .string o, .bool b] 90 (0, 0))) := hB0
  have HT0 : Hid (Tch (fun _ => False) w w0) := t0
  have Hw0 : Hid (w0 = w.alloc (.cells #[.string f, .string o, .bool b] 90)) := hw0
  have HB : Hid (B = w.heap.size) := hB
  obtain ⟨n, hn⟩ : ∃ n, n = t.its.length := ⟨_, rfl⟩
  have Hn : Hid (n = t.its.length) := hn
  have hnI : (n : Int) ≤ 15 := by omega
  have Hle : Hid (∀ k i th, Found t.its k i th → (i : Int) ≤ 15) := fun k i th hf => by have := hf.le; omega
  rw [hw0, hB] at x0
  rw [← hn] at HC
  clear hN hok hs hsu he h15 hP hK hFe hw0 hB t0 hB0 hn
  go_enter Try.func95, Try.ntmps95
  go_wp2_with fail
  have hw := Hw0.out
  rw [← hw, ← HB.out]
  clear hw x0
  refine q.mono ?_
  rintro x w1 ⟨⟨i, th, rfl, hf⟩, t1⟩
  clear q
  have hiI := Hle.out f i th hf
  have HF1 : Hid (Found t.its f i th) := hf
  have HT1 : Hid (Tch (fun _ => False) w w1) := HT0.out.trans' t1
  obtain ⟨ao, ca, c0⟩ := HC.out w1 HT1.out
  have hB1 : w1.heap[B]? = some (.cells #[.string f, .string o, .bool b] 90 (0, 0)) := by rw [t1.block B (blk_lt HB0.out) (fun h => h)]; exact HB0.out
  have x1 : w1.cell? ⟨B, 1, none⟩ = some (.string o) := by rw [blk_cell hB1]; rfl
  have q2 := HF.out w1 HT1.out o
  clear hf t1 hB1
  by_cases ho : o = ⟨#[]⟩
  · subst ho
    clear q2
    go_wp2_with fail
    go_ret2
    exact ⟨⟨i, n, by go_num, ⟨th, HF1.out⟩, Or.inl ⟨rfl, Hn.out⟩⟩, HT1.out⟩
  · have ho2 : o.toList.isEmpty = false := by
      rw [ByteArray.toList_eq]
      cases hl : o.data.toList with
      | nil =>
        refine absurd ?_ ho
        obtain ⟨d⟩ := o
        obtain ⟨dl⟩ := d
        have hl' : dl = [] := hl
        rw [hl']
      | cons _ _ => rfl
    go_wp2_with fail
    refine q2.mono ?_
    rintro x w2 ⟨⟨j, th2, rfl, hf2⟩, t2⟩
    clear q2
    have hjI := Hle.out o j th2 hf2
    have HF2 : Hid (Found t.its o j th2) := hf2
    have HT2 : Hid (Tch (fun _ => False) w w2) := HT1.out.trans' t2
    have Ho : Hid (o ≠ ⟨#[]⟩) := ho
    clear hf2 t2 c0 x1
    go_wp2_with fail
    go_ret2
    exact ⟨⟨i, j, by go_num, ⟨th, HF1.out⟩, Or.inr ⟨Ho.out, th2, HF2.out⟩⟩, HT2.out⟩
end Go.Proofs.Ytnjiiebjdpipjaa
