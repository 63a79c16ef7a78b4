import Derived.Test.YtnjiiebjdpipjaaTTDel
/- New, Len, Height, Get of a tree. -/
namespace Go.Proofs.Ytnjiiebjdpipjaa
open Go.RowKit Go

theorem new_t (w : World) : Calls Try.prog 7 #[] w fun x w' => x = .returned (pv w.heap.size) ∧ TW w' w.heap.size [] 0 [w.heap.size] ∧ Tch (fun _ => False) w w' := by
  have hnB : Nod [w.heap.size] := fun x => by rw [List.count_singleton]; split <;> omega
  have HF : Hid (TW (w.alloc (.cells #[.pointer none] 64)) w.heap.size [] 0 [w.heap.size]) := ⟨hnB, List.Pairwise.nil, Or.inl ⟨rfl, rfl, rfl, alloc_new _ _⟩⟩
  go_enter Try.func7, Try.ntmps7
  go_wp2_with fail
  go_ret
  exact ⟨rfl, HF.out, Tch.alloc _ _ _⟩
theorem len_t (w : World) (b : Nat) (l : List It) (ht : Nat) (F : List Nat) (h : TW w b l ht F) : Calls Try.prog 13 #[pv b] w fun x w' => x = .returned (.int .i64 l.length) ∧ w' = w := by
  obtain ⟨h1, h2, ⟨rfl, rfl, rfl, hb⟩ | ⟨h, t, p, G, rfl, hb, hN, h3, h4, rfl, rfl⟩⟩ := h
  · have c0 : w.cell? ⟨b, 0, none⟩ = some (.pointer none) := by rw [blk_cell hb]; rfl
    have q := count_nil w
    clear hb h1 h2
    go_enter Try.func13, Try.ntmps13
    go_wp2_with (go_at_call 32; refine q.mono ?_; rintro x w1 ⟨rfl, rfl⟩)
    go_ret
    exact ⟨rfl, rfl⟩
  · have c0 : w.cell? ⟨b, 0, none⟩ = some (pv p) := by rw [blk_cell hb]; rfl
    obtain ⟨s, hs⟩ : ∃ s : Int, s = ((Nd.flat h t).length : Int) := ⟨_, rfl⟩
    have q := count_any p s w (by rw [hs]; exact hN.size.1)
    rw [← hs]
    clear hb h1 h2 hN h3 h4 hs
    go_enter Try.func13, Try.ntmps13
    go_wp2_with (go_at_call 32; refine q.mono ?_; rintro x w1 ⟨rfl, rfl⟩)
    go_ret
    exact ⟨rfl, rfl⟩
/-- What is told of a node at so many floors from the ground: nothing, or a pointer. -/
def Fl (w : World) (j : Nat) (v : Value) : Prop := (j = 0 ∧ v = .pointer none) ∨ ∃ (h : Nat) (t : Nd It h) (p : Nat) (G : List Nat), j = h + 1 ∧ v = pv p ∧ NW h w p t G ∧ t.ok
theorem Fl.kid {w : World} {h : Nat} {t : Nd It h} {p : Nat} {G : List Nat} (hN : NW h w p t G) (hok : t.ok) : ∃ v, Fl w h v ∧ Calls Try.prog 31 #[pv p, .int .i64 0] w fun x w' => x = .returned v ∧ w' = w := by
  obtain ⟨iv, kv, qs, FF, hP, hK, rfl⟩ := NW_iff.1 hN
  have hs := (ok_iff h t).1 hok
  have he := sub_even h t hs.2
  cases h with
  | zero =>
    have e : qs = [] := hK.1
    subst e
    exact ⟨.pointer none, Or.inl ⟨rfl, rfl⟩, kid_none p 0 iv kv _ _ w hP⟩
  | succ h =>
    obtain ⟨ks, rfl, e2, rfl, h3⟩ := hK
    have h9 : t.2.length = t.1.length + 1 := he
    have hts := hs.2.2
    cases ks with
    | nil => rw [e2] at h9; simp at h9
    | cons x ks =>
      have hx := h3 x (by simp)
      refine ⟨pv x.1, Or.inr ⟨h, x.2.1, x.1, x.2.2, rfl, rfl, hx, (hts x.2.1 (by rw [e2]; simp)).1⟩, ?_⟩
      have h15 : t.1.length ≤ 15 := hs.1
      have := kid_some p 0 iv kv _ _ _ w hP (by simp) (by rw [List.length_map]; have h10 := congrArg List.length e2; rw [List.length_map] at h10; omega)
      simpa using this
set_option maxHeartbeats 2000000 in
set_option maxRecDepth 100000 in
theorem height_t (w : World) (b : Nat) (l : List It) (ht : Nat) (F : List Nat) (h : TW w b l ht F) (hht : ht < 1000000) : Calls Try.prog 12 #[pv b] w fun x w' => x = .returned (.int .i64 ht) ∧ w' = w := by
  obtain ⟨v, c0, HV⟩ : ∃ v, w.cell? ⟨b, 0, none⟩ = some v ∧ Hid (Fl w ht v) := by
    obtain ⟨h1, h2, ⟨rfl, rfl, rfl, hb⟩ | ⟨h, t, p, G, rfl, hb, hN, h3, h4, rfl, rfl⟩⟩ := h
    · exact ⟨_, by rw [blk_cell hb]; rfl, Or.inl ⟨rfl, rfl⟩⟩
    · exact ⟨_, by rw [blk_cell hb]; rfl, Or.inr ⟨h, t, p, G, rfl, rfl, hN, h3⟩⟩
  have hv1 : ∃ a, v = .pointer a := by
    rcases HV.out with ⟨_, e⟩ | ⟨_, _, p, _, _, e, _⟩
    · exact ⟨_, e⟩
    · exact ⟨_, e⟩
  obtain ⟨a, rfl⟩ := hv1
  clear h
  go_enter Try.func12, Try.ntmps12
  go_wp2_with fail
  clear c0
  go_loopg [3, 4] ht (fun kx s3 s4 wr => ∃ (i : Nat) (a : Option Addr), s3 = .int .i64 i ∧ s4 = .pointer a ∧ i + kx = ht ∧ wr = w ∧ Hid (Fl w kx (.pointer a)))
  case atStart => exact ⟨0, a, rfl, rfl, by omega, rfl, HV⟩
  case round =>
    clear HV
    obtain ⟨i, a', rfl, rfl, hi, rfl, HV⟩ := hrel
    rcases HV.out with ⟨e1, e2⟩ | ⟨h, t, p, G, e1, e2, hN, hok⟩
    · injection e2 with e2
      subst e2
      subst e1
      obtain rfl : i = ht := by omega
      go_wp2_with fail
      go_ret
      exact ⟨rfl, rfl⟩
    · injection e2 with e2
      subst e2
      obtain ⟨v, hv, q⟩ := Fl.kid hN hok
      have hv1 : ∃ a, v = .pointer a := by
        rcases hv with ⟨_, e⟩ | ⟨_, _, p, _, _, e, _⟩
        · exact ⟨_, e⟩
        · exact ⟨_, e⟩
      obtain ⟨a2, rfl⟩ := hv1
      have Hv : Hid (Fl wr h (.pointer a2)) := hv
      have hi6 : (i : Int) < 1000000 := by omega
      subst e1
      clear hN hok hv HV
      go_wp2_with (go_at_call 31; refine q.mono ?_; rintro x w1 ⟨rfl, hwx⟩; subst hwx; clear q)
      go_roundg h
      case measure => omega
      case rel => exact ⟨i + 1, a2, by go_num, rfl, by omega, rfl, Hv⟩
/-- What Get tells. -/
def GetRel (k : ByteArray) (l : List It) (v : GV) (th : Bool) : Prop := (th = true ∧ ∃ x y, l = x ++ (k, v) :: y ∧ (∀ e ∈ x, Lo k e) ∧ ∀ e ∈ y, Hi k e) ∨ (th = false ∧ v = gv0 ∧ Gap k l)
/-- A node in which a key is, if it is anywhere. -/
def Gt (w : World) (k : ByteArray) (l : List It) (j : Nat) (v : Value) : Prop := (j = 0 ∧ v = .pointer none ∧ Gap k l) ∨ ∃ (h : Nat) (t : Nd It h) (p : Nat) (G X Y : List _), j = h + 1 ∧ v = pv p ∧ NW h w p t G ∧ t.ok ∧ l = X ++ (t.flat h ++ Y) ∧ (∀ e ∈ X, Lo k e) ∧ ∀ e ∈ Y, Hi k e
end Go.Proofs.Ytnjiiebjdpipjaa
/- Get of a tree; At beyond its items. -/
namespace Go.Proofs.Ytnjiiebjdpipjaa
open Go.RowKit Go

theorem sorted_uniq {l : List It} (hs : Sorted l) {k : ByteArray} {v v' : GV} (h1 : (k, v) ∈ l) (h2 : (k, v') ∈ l) : v = v' := by
  induction l with
  | nil => simp at h1
  | cons a l ih =>
    obtain ⟨p1, p2⟩ := List.pairwise_cons.1 hs
    rcases List.mem_cons.1 h1 with e1 | e1 <;> rcases List.mem_cons.1 h2 with e2 | e2
    · rw [← e1] at e2; injection e2 with _ e2; exact e2.symm
    · have h3 := p1 _ e2
      rw [← e1] at h3
      unfold KL at h3
      have := kc_self k
      simp only at h3
      omega
    · have h3 := p1 _ e1
      rw [← e2] at h3
      unfold KL at h3
      have := kc_self k
      simp only at h3
      omega
    · exact ih p2 e1 e2
theorem get_of_mem {l : List It} (hs : Sorted l) {k : ByteArray} {v : GV} (h : (k, v) ∈ l) : GetRel k l v true := by
  obtain ⟨x, y, rfl⟩ := List.append_of_mem h
  refine Or.inl ⟨rfl, x, y, rfl, fun e he => ?_, fun e he => ?_⟩
  · exact (List.pairwise_append.1 hs).2.2 e he (k, v) (by simp)
  · have h3 := (List.pairwise_cons.1 (List.pairwise_append.1 hs).2.1).1 e he
    unfold KL at h3
    have := kc_flip k e.1
    unfold Hi
    simp only at h3
    omega
theorem Gt.kid {w : World} {k : ByteArray} {l : List It} {h : Nat} {t : Nd It h} {p i : Nat} {G : List Nat} {X Y : List It} (hN : NW h w p t G) (hok : t.ok) (hl : l = X ++ (t.flat h ++ Y)) (hX : ∀ e ∈ X, Lo k e) (hY : ∀ e ∈ Y, Hi k e) (hs : Sorted l) (hF : Found t.its k i false) : ∃ v, Gt w k l h v ∧ Calls Try.prog 31 #[pv p, .int .i64 i] w fun x w' => x = .returned v ∧ w' = w := by
  obtain ⟨iv, kv, qs, FF, hP, hK, rfl⟩ := NW_iff.1 hN
  have hsu := (ok_iff h t).1 hok
  have he := sub_even h t hsu.2
  cases h with
  | zero =>
    have e : qs = [] := hK.1
    subst e
    refine ⟨.pointer none, Or.inl ⟨rfl, rfl, X ++ t.its.take i, t.its.drop i ++ Y, ?_, fun e he => (List.mem_append.1 he).elim (hX e) (hF.lo e), fun e he => (List.mem_append.1 he).elim (hF.hi rfl e) (hY e)⟩, kid_none p i iv kv _ _ w hP⟩
    have h0 : t.flat 0 = t.its.take i ++ t.its.drop i := (List.take_append_drop i t.its).symm
    rw [hl, h0, List.append_assoc, List.append_assoc]
  | succ h =>
    obtain ⟨ka, kb, kk, et, hka, hkb, hma, hmb, hmk⟩ := node_at t i hF.le he
    have hA : (t.1.take i).length = i := by rw [List.length_take]; have : i ≤ t.1.length := hF.le; omega
    have hfl : Nd.flat (h + 1) t = mix (t.1.take i) (ka.map (Nd.flat h) ++ [[]]) ++ (kk.flat h ++ mix (t.1.drop i) ([] :: kb.map (Nd.flat h))) := by
      have h8 := kid_mid h (t.1.take i) (t.1.drop i) ka kb kk (by omega)
      rw [← et] at h8
      exact h8
    have hsf : Sorted (Nd.flat (h + 1) t) := by rw [hl] at hs; exact (List.pairwise_append.1 (List.pairwise_append.1 hs).2.1).1
    rw [hfl] at hsf
    obtain ⟨p1, p2, _⟩ := List.pairwise_append.mp hsf
    obtain ⟨_, p3, _⟩ := List.pairwise_append.mp p2
    have hX' := ahead_all KL (Lo k) (fun e e' => Lo.of) (t.1.take i) (ka.map (Nd.flat h)) (by rw [List.length_map]; omega) p1 hF.lo
    have hY' := behind_all KL (Hi k) (fun e e' => Hi.of) (t.1.drop i) (kb.map (Nd.flat h)) p3 (hF.hi rfl)
    have hN' : KidsOf (NW h w) (ka ++ kk :: kb) qs FF := by
      have hk : KidsOf (NW h w) t.2 qs FF := hK
      have e2 : t.2 = ka ++ kk :: kb := congrArg Prod.snd et
      rw [e2] at hk
      exact hk
    obtain ⟨k1, k2, q, Fk, rfl, rfl, rfl, rfl, hq, h1, h2⟩ := kids_at hN'
    have hki : (kP k1 ++ q :: kP k2)[i]? = some q := by rw [List.getElem?_append_right (by rw [kP_len]; omega), kP_len, hka, Nat.sub_self]; rfl
    obtain ⟨hilt, hki2⟩ := List.getElem?_eq_some_iff.1 hki
    have h15 : t.1.length ≤ 15 := hsu.1
    have hkid := kid_some p i iv kv _ _ _ w hP hilt (by simp only [List.length_append, List.length_cons, kP_len]; have h10 := hsu.2.1; have e2 : t.2 = _ := congrArg Prod.snd et; have h11 := congrArg List.length e2; simp only [List.length_append, List.length_cons] at h11; omega)
    rw [hki2] at hkid
    refine ⟨pv q, Or.inr ⟨h, kk, q, Fk, X ++ mix (t.1.take i) ((kT k1).map (Nd.flat h) ++ [[]]), mix (t.1.drop i) ([] :: (kT k2).map (Nd.flat h)) ++ Y, rfl, rfl, hq, (hsu.2.2 kk hmk).1, ?_, fun e he => (List.mem_append.1 he).elim (hX e) (hX' e), fun e he => (List.mem_append.1 he).elim (hY' e) (hY e)⟩, hkid⟩
    rw [hl, hfl]
    simp
set_option maxHeartbeats 2000000 in
set_option maxRecDepth 100000 in
theorem get_t (w : World) (b : Nat) (l : List It) (ht : Nat) (F : List Nat) (k : ByteArray) (h : TW w b l ht F) : Calls Try.prog 28 #[pv b, .string k] w fun x w' => (∃ v th, x = .returned (.tuple #[ev v, .bool th]) ∧ GetRel k l v th) ∧ Tch (fun _ => False) w w' := by
  obtain ⟨v, c0, HV⟩ : ∃ v, w.cell? ⟨b, 0, none⟩ = some v ∧ Hid (Gt w k l ht v) := by
    obtain ⟨h1, h2, ⟨rfl, rfl, rfl, hb⟩ | ⟨h, t, p, G, rfl, hb, hN, h3, h4, rfl, rfl⟩⟩ := h
    · exact ⟨_, by rw [blk_cell hb]; rfl, Or.inl ⟨rfl, rfl, [], [], rfl, by simp, by simp⟩⟩
    · exact ⟨_, by rw [blk_cell hb]; rfl, Or.inr ⟨h, t, p, G, [], [], rfl, rfl, hN, h3, by simp, by simp, by simp⟩⟩
  have Hso : Hid (Sorted l) := h.2.1
  have hv1 : ∃ a, v = .pointer a := by
    rcases HV.out with ⟨_, e, _⟩ | ⟨_, _, p, _, _, _, _, e, _⟩
    · exact ⟨_, e⟩
    · exact ⟨_, e⟩
  obtain ⟨a, rfl⟩ := hv1
  clear h
  go_enter Try.func28, Try.ntmps28
  go_wp2_with fail
  clear c0
  go_loopg [6] ht (fun kx s6 wr => ∃ (a : Option Addr), s6 = .pointer a ∧ Hid (Tch (fun _ => False) w wr) ∧ Hid (Gt wr k l kx (.pointer a)))
  case atStart => exact ⟨a, rfl, Tch.refl _ _, HV⟩
  case round =>
    clear HV
    obtain ⟨a', rfl, HT, HV⟩ := hrel
    rcases HV.out with ⟨e1, e2, hg⟩ | ⟨h, t, p, G, X, Y, e1, e2, hN, hok, hl, hX, hY⟩
    · injection e2 with e2
      subst e2
      have Hg : Hid (Gap k l) := hg
      clear hg HV
      go_wp2_with fail
      go_ret2
      exact ⟨⟨gv0, false, rfl, Or.inr ⟨rfl, rfl, Hg.out⟩⟩, HT.out⟩
    · injection e2 with e2
      subst e2
      obtain ⟨iv, kv, qs, FF, hP, hK, hFe⟩ := NW_iff.1 hN
      have hsu := (ok_iff h t).1 hok
      have he := sub_even h t hsu.2
      have hsf : Sorted (t.flat h) := by have := Hso.out; rw [hl] at this; exact (List.pairwise_append.1 (List.pairwise_append.1 this).2.1).1
      have q := find_any p t.its k iv kv _ wr hP.nd hP.its (its_sorted t he hsf) (by omega)
      have X1 : Hid (NW h wr p t G ∧ t.ok ∧ l = X ++ (t.flat h ++ Y) ∧ (∀ e ∈ X, Lo k e) ∧ ∀ e ∈ Y, Hi k e) := ⟨hN, hok, hl, hX, hY⟩
      have HP : Hid (FN wr p iv kv t.its qs (Nd.flat h t).length) := hP
      have Hev : Hid (t.even) := he
      subst e1
      clear hN hok hl hX hY hP hK hFe hsu he hsf HV
      go_wp2_with fail
      refine q.mono ?_
      rintro x w1 ⟨⟨i, th, rfl, hF⟩, t1⟩
      have HT1 : Hid (Tch (fun _ => False) w w1) := HT.out.trans' t1
      obtain ⟨hN, hok, hl, hX, hY⟩ := X1.out
      have hP1 := HP.out.tch t1 (fun _ _ h => h)
      cases th with
      | true =>
        obtain ⟨it, hit, hk⟩ := hF.at_ rfl
        obtain ⟨hi, hit2⟩ := List.getElem?_eq_some_iff.1 hit
        obtain ⟨g, ic, ei, -, -, -, -, j1, -⟩ := it_at hP1.its hi
        rw [hit2] at j1
        have c0 := hP1.nd.cells.1
        rw [ei] at c0
        obtain ⟨n, hn⟩ : ∃ n, n = t.its.length := ⟨_, rfl⟩
        rw [← hn] at c0
        have hiI : (i : Int) < n := by omega
        have Hr : Hid (GetRel k l it.2 true) := by
          refine get_of_mem Hso.out ?_
          rw [hl]
          have h1 : it ∈ t.its := hit2 ▸ List.getElem_mem hi
          have h2 := (its_sublist t Hev.out).subset h1
          have e : (k, it.2) = it := by rw [← hk]
          rw [e]
          simp [h2]
        clear hN hok hl hX hY hP1 hF hit hit2 hi hk ei hn t1 q
        go_wp2_with fail
        go_ret2
        exact ⟨⟨it.2, true, rfl, Hr.out⟩, HT1.out⟩
      | false =>
        obtain ⟨v, hv, qk⟩ := Gt.kid (hN.tch t1 (fun _ _ h => h)) hok hl hX hY Hso.out hF
        have hv1 : ∃ a, v = .pointer a := by
          rcases hv with ⟨_, e, _⟩ | ⟨_, _, p, _, _, _, _, e, _⟩
          · exact ⟨_, e⟩
          · exact ⟨_, e⟩
        obtain ⟨a2, rfl⟩ := hv1
        have Hv : Hid (Gt w1 k l h (.pointer a2)) := hv
        clear hN hok hl hX hY hP1 hF t1 hv q
        go_wp2_with (go_at_call 31; refine qk.mono ?_; rintro x w2 ⟨rfl, hwx⟩; subst hwx; clear qk)
        go_roundg h
        case measure => omega
        case rel => exact ⟨a2, rfl, HT1, Hv⟩
theorem at_beyond (w : World) (b : Nat) (ht : Nat) (F : List Nat) (h : TW w b [] ht F) : Calls Try.prog 15 #[pv b, .int .i64 0] w fun x w' => x = .returned (.tuple #[.string ⟨#[]⟩, ev gv0, .bool false]) ∧ w' = w := by
  have q := len_t w b [] ht F h
  clear h
  go_enter Try.func15, Try.ntmps15
  go_wp2_with (go_at_call 13; refine q.mono ?_; rintro x w1 ⟨rfl, rfl⟩)
  refine bodyPost_ret (results_tmp3 (t := 4) (u := 5) (v := 6) (by kernel_rfl) _ _ _) rfl ?_
  exact ⟨rfl, rfl⟩
end Go.Proofs.Ytnjiiebjdpipjaa
