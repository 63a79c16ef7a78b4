import Derived.Test.YtnjiiebjdpipjaaTCmp
import Derived.Test.YtnjiiebjdpipjaaSTTDel
import Derived.Test.YtnjiiebjdpipjaaOrdv
/- New, Len, Height, Get of a tree. -/
namespace Go.Proofs.Ytnjiiebjdpipjaa.S
open Go.RowKit Go

theorem new_t (w : World) : Calls Try.prog 35 #[] w fun x w' => x = .returned (pv w.heap.size) ∧ TW w' w.heap.size [] 0 [w.heap.size] ∧ Tch (fun _ => False) w w' := by
  have hnB : Nod [w.heap.size] := fun x => by rw [List.count_singleton]; split <;> omega
  have HF : Hid (TW (w.alloc (.cells #[.pointer none] 80)) w.heap.size [] 0 [w.heap.size]) := ⟨hnB, List.Pairwise.nil, Or.inl ⟨rfl, rfl, rfl, alloc_new _ _⟩⟩
  go_enter Try.func35, Try.ntmps35
  go_wp2_with fail
  go_ret
  exact ⟨rfl, HF.out, Tch.alloc _ _ _⟩
theorem len_t (w : World) (b : Nat) (l : List It) (ht : Nat) (F : List Nat) (h : TW w b l ht F) : Calls Try.prog 20 #[pv b] w fun x w' => x = .returned (.int .i64 l.length) ∧ w' = w := by
  obtain ⟨h1, h2, ⟨rfl, rfl, rfl, hb⟩ | ⟨h, t, p, G, rfl, hb, hN, h3, h4, rfl, rfl⟩⟩ := h
  · have c0 : w.cell? ⟨b, 0, none⟩ = some (.pointer none) := by rw [blk_cell hb]; rfl
    have q := count_nil w
    clear hb h1 h2
    go_enter Try.func20, Try.ntmps20
    go_wp2_with (go_at_call 41; refine q.mono ?_; rintro x w1 ⟨rfl, rfl⟩)
    go_ret
    exact ⟨rfl, rfl⟩
  · have c0 : w.cell? ⟨b, 0, none⟩ = some (pv p) := by rw [blk_cell hb]; rfl
    obtain ⟨s, hs⟩ : ∃ s : Int, s = ((Nd.flat h t).length : Int) := ⟨_, rfl⟩
    have q := count_any p s w (by rw [hs]; exact hN.size.1)
    rw [← hs]
    clear hb h1 h2 hN h3 h4 hs
    go_enter Try.func20, Try.ntmps20
    go_wp2_with (go_at_call 41; refine q.mono ?_; rintro x w1 ⟨rfl, rfl⟩)
    go_ret
    exact ⟨rfl, rfl⟩
/-- What is told of a node at so many floors from the ground: nothing, or a pointer. -/
def Fl (w : World) (j : Nat) (v : Value) : Prop := (j = 0 ∧ v = .pointer none) ∨ ∃ (h : Nat) (t : Nd It h) (p : Nat) (G : List Nat), j = h + 1 ∧ v = pv p ∧ NW h w p t G ∧ t.ok
theorem Fl.kid {w : World} {h : Nat} {t : Nd It h} {p : Nat} {G : List Nat} (hN : NW h w p t G) (hok : t.ok) : ∃ v, Fl w h v ∧ Calls Try.prog 38 #[pv p, .int .i64 0] w fun x w' => x = .returned v ∧ w' = w := by
  obtain ⟨iv, kv, qs, FF, hP, hK, rfl⟩ := NW_iff.1 hN
  have hs := (ok_iff h t).1 hok
  have he := sub_even h t hs.2
  cases h with
  | zero =>
    have e : qs = [] := hK.1
    subst e
    exact ⟨.pointer none, Or.inl ⟨rfl, rfl⟩, kid_none p 0 iv kv _ _ w hP⟩
  | succ h =>
    obtain ⟨ks, rfl, e2, rfl, h3⟩ := hK
    have h9 : t.2.length = t.1.length + 1 := he
    have hts := hs.2.2
    cases ks with
    | nil => rw [e2] at h9; simp at h9
    | cons x ks =>
      have hx := h3 x (by simp)
      refine ⟨pv x.1, Or.inr ⟨h, x.2.1, x.1, x.2.2, rfl, rfl, hx, (hts x.2.1 (by rw [e2]; simp)).1⟩, ?_⟩
      have h15 : t.1.length ≤ 15 := hs.1
      have := kid_some p 0 iv kv _ _ _ w hP (by simp) (by rw [List.length_map]; have h10 := congrArg List.length e2; rw [List.length_map] at h10; omega)
      simpa using this
set_option maxHeartbeats 2000000 in
set_option maxRecDepth 100000 in
theorem height_t (w : World) (b : Nat) (l : List It) (ht : Nat) (F : List Nat) (h : TW w b l ht F) (hht : ht < 1000000) : Calls Try.prog 23 #[pv b] w fun x w' => x = .returned (.int .i64 ht) ∧ w' = w := by
  obtain ⟨v, c0, HV⟩ : ∃ v, w.cell? ⟨b, 0, none⟩ = some v ∧ Hid (Fl w ht v) := by
    obtain ⟨h1, h2, ⟨rfl, rfl, rfl, hb⟩ | ⟨h, t, p, G, rfl, hb, hN, h3, h4, rfl, rfl⟩⟩ := h
    · exact ⟨_, by rw [blk_cell hb]; rfl, Or.inl ⟨rfl, rfl⟩⟩
    · exact ⟨_, by rw [blk_cell hb]; rfl, Or.inr ⟨h, t, p, G, rfl, rfl, hN, h3⟩⟩
  have hv1 : ∃ a, v = .pointer a := by
    rcases HV.out with ⟨_, e⟩ | ⟨_, _, p, _, _, e, _⟩
    · exact ⟨_, e⟩
    · exact ⟨_, e⟩
  obtain ⟨a, rfl⟩ := hv1
  clear h
  go_enter Try.func23, Try.ntmps23
  go_wp2_with fail
  clear c0
  go_loopg [3, 4] ht (fun kx s3 s4 wr => ∃ (i : Nat) (a : Option Addr), s3 = .int .i64 i ∧ s4 = .pointer a ∧ i + kx = ht ∧ wr = w ∧ Hid (Fl w kx (.pointer a)))
  case atStart => exact ⟨0, a, rfl, rfl, by omega, rfl, HV⟩
  case round =>
    clear HV
    obtain ⟨i, a', rfl, rfl, hi, rfl, HV⟩ := hrel
    rcases HV.out with ⟨e1, e2⟩ | ⟨h, t, p, G, e1, e2, hN, hok⟩
    · injection e2 with e2
      subst e2
      subst e1
      obtain rfl : i = ht := by omega
      go_wp2_with fail
      go_ret
      exact ⟨rfl, rfl⟩
    · injection e2 with e2
      subst e2
      obtain ⟨v, hv, q⟩ := Fl.kid hN hok
      have hv1 : ∃ a, v = .pointer a := by
        rcases hv with ⟨_, e⟩ | ⟨_, _, p, _, _, e, _⟩
        · exact ⟨_, e⟩
        · exact ⟨_, e⟩
      obtain ⟨a2, rfl⟩ := hv1
      have Hv : Hid (Fl wr h (.pointer a2)) := hv
      have hi6 : (i : Int) < 1000000 := by omega
      subst e1
      clear hN hok hv HV
      go_wp2_with (go_at_call 38; refine q.mono ?_; rintro x w1 ⟨rfl, hwx⟩; subst hwx; clear q)
      go_roundg h
      case measure => omega
      case rel => exact ⟨i + 1, a2, by go_num, rfl, by omega, rfl, Hv⟩
/-- What Get tells. -/
def GetRel (k : ByteArray) (l : List It) (v : GV) (th : Bool) : Prop := (th = true ∧ ∃ x y, l = x ++ (k, v) :: y ∧ (∀ e ∈ x, Lo k e) ∧ ∀ e ∈ y, Hi k e) ∨ (th = false ∧ v = gv0 ∧ Gap k l)
/-- A node in which a key is, if it is anywhere. -/
def Gt (w : World) (k : ByteArray) (l : List It) (j : Nat) (v : Value) : Prop := (j = 0 ∧ v = .pointer none ∧ Gap k l) ∨ ∃ (h : Nat) (t : Nd It h) (p : Nat) (G X Y : List _), j = h + 1 ∧ v = pv p ∧ NW h w p t G ∧ t.ok ∧ l = X ++ (t.flat h ++ Y) ∧ (∀ e ∈ X, Lo k e) ∧ ∀ e ∈ Y, Hi k e
end Go.Proofs.Ytnjiiebjdpipjaa.S
/- Get of a tree; At beyond its items. -/
namespace Go.Proofs.Ytnjiiebjdpipjaa.S
open Go.RowKit Go

theorem sorted_uniq {l : List It} (hs : Sorted l) {k : ByteArray} {v v' : GV} (h1 : (k, v) ∈ l) (h2 : (k, v') ∈ l) : v = v' := by
  induction l with
  | nil => simp at h1
  | cons a l ih =>
    obtain ⟨p1, p2⟩ := List.pairwise_cons.1 hs
    rcases List.mem_cons.1 h1 with e1 | e1 <;> rcases List.mem_cons.1 h2 with e2 | e2
    · rw [← e1] at e2; injection e2 with _ e2; exact e2.symm
    · have h3 := p1 _ e2
      rw [← e1] at h3
      unfold KL at h3
      have := kc_self k
      simp only at h3
      omega
    · have h3 := p1 _ e1
      rw [← e2] at h3
      unfold KL at h3
      have := kc_self k
      simp only at h3
      omega
    · exact ih p2 e1 e2
theorem get_of_mem {l : List It} (hs : Sorted l) {k : ByteArray} {v : GV} (h : (k, v) ∈ l) : GetRel k l v true := by
  obtain ⟨x, y, rfl⟩ := List.append_of_mem h
  refine Or.inl ⟨rfl, x, y, rfl, fun e he => ?_, fun e he => ?_⟩
  · exact (List.pairwise_append.1 hs).2.2 e he (k, v) (by simp)
  · have h3 := (List.pairwise_cons.1 (List.pairwise_append.1 hs).2.1).1 e he
    unfold KL at h3
    have := kc_flip k e.1
    unfold Hi
    simp only at h3
    omega
theorem Gt.kid {w : World} {k : ByteArray} {l : List It} {h : Nat} {t : Nd It h} {p i : Nat} {G : List Nat} {X Y : List It} (hN : NW h w p t G) (hok : t.ok) (hl : l = X ++ (t.flat h ++ Y)) (hX : ∀ e ∈ X, Lo k e) (hY : ∀ e ∈ Y, Hi k e) (hs : Sorted l) (hF : Found t.its k i false) : ∃ v, Gt w k l h v ∧ Calls Try.prog 38 #[pv p, .int .i64 i] w fun x w' => x = .returned v ∧ w' = w := by
  obtain ⟨iv, kv, qs, FF, hP, hK, rfl⟩ := NW_iff.1 hN
  have hsu := (ok_iff h t).1 hok
  have he := sub_even h t hsu.2
  cases h with
  | zero =>
    have e : qs = [] := hK.1
    subst e
    refine ⟨.pointer none, Or.inl ⟨rfl, rfl, X ++ t.its.take i, t.its.drop i ++ Y, ?_, fun e he => (List.mem_append.1 he).elim (hX e) (hF.lo e), fun e he => (List.mem_append.1 he).elim (hF.hi rfl e) (hY e)⟩, kid_none p i iv kv _ _ w hP⟩
    have h0 : t.flat 0 = t.its.take i ++ t.its.drop i := (List.take_append_drop i t.its).symm
    rw [hl, h0, List.append_assoc, List.append_assoc]
  | succ h =>
    obtain ⟨ka, kb, kk, et, hka, hkb, hma, hmb, hmk⟩ := node_at t i hF.le he
    have hA : (t.1.take i).length = i := by rw [List.length_take]; have : i ≤ t.1.length := hF.le; omega
    have hfl : Nd.flat (h + 1) t = mix (t.1.take i) (ka.map (Nd.flat h) ++ [[]]) ++ (kk.flat h ++ mix (t.1.drop i) ([] :: kb.map (Nd.flat h))) := by
      have h8 := kid_mid h (t.1.take i) (t.1.drop i) ka kb kk (by omega)
      rw [← et] at h8
      exact h8
    have hsf : Sorted (Nd.flat (h + 1) t) := by rw [hl] at hs; exact (List.pairwise_append.1 (List.pairwise_append.1 hs).2.1).1
    rw [hfl] at hsf
    obtain ⟨p1, p2, _⟩ := List.pairwise_append.mp hsf
    obtain ⟨_, p3, _⟩ := List.pairwise_append.mp p2
    have hX' := ahead_all KL (Lo k) (fun e e' => Lo.of) (t.1.take i) (ka.map (Nd.flat h)) (by rw [List.length_map]; omega) p1 hF.lo
    have hY' := behind_all KL (Hi k) (fun e e' => Hi.of) (t.1.drop i) (kb.map (Nd.flat h)) p3 (hF.hi rfl)
    have hN' : KidsOf (NW h w) (ka ++ kk :: kb) qs FF := by
      have hk : KidsOf (NW h w) t.2 qs FF := hK
      have e2 : t.2 = ka ++ kk :: kb := congrArg Prod.snd et
      rw [e2] at hk
      exact hk
    obtain ⟨k1, k2, q, Fk, rfl, rfl, rfl, rfl, hq, h1, h2⟩ := kids_at hN'
    have hki : (kP k1 ++ q :: kP k2)[i]? = some q := by rw [List.getElem?_append_right (by rw [kP_len]; omega), kP_len, hka, Nat.sub_self]; rfl
    obtain ⟨hilt, hki2⟩ := List.getElem?_eq_some_iff.1 hki
    have h15 : t.1.length ≤ 15 := hsu.1
    have hkid := kid_some p i iv kv _ _ _ w hP hilt (by simp only [List.length_append, List.length_cons, kP_len]; have h10 := hsu.2.1; have e2 : t.2 = _ := congrArg Prod.snd et; have h11 := congrArg List.length e2; simp only [List.length_append, List.length_cons] at h11; omega)
    rw [hki2] at hkid
    refine ⟨pv q, Or.inr ⟨h, kk, q, Fk, X ++ mix (t.1.take i) ((kT k1).map (Nd.flat h) ++ [[]]), mix (t.1.drop i) ([] :: (kT k2).map (Nd.flat h)) ++ Y, rfl, rfl, hq, (hsu.2.2 kk hmk).1, ?_, fun e he => (List.mem_append.1 he).elim (hX e) (hX' e), fun e he => (List.mem_append.1 he).elim (hY' e) (hY e)⟩, hkid⟩
    rw [hl, hfl]
    simp
set_option maxHeartbeats 2000000 in
set_option maxRecDepth 100000 in
theorem get_t (w : World) (b : Nat) (l : List It) (ht : Nat) (F : List Nat) (k : ByteArray) (h : TW w b l ht F) : Calls Try.prog 18 #[pv b, .string k] w fun x w' => (∃ v th, x = .returned (.tuple #[ev v, .bool th]) ∧ GetRel k l v th) ∧ Tch (fun _ => False) w w' := by
  obtain ⟨v, c0, HV⟩ : ∃ v, w.cell? ⟨b, 0, none⟩ = some v ∧ Hid (Gt w k l ht v) := by
    obtain ⟨h1, h2, ⟨rfl, rfl, rfl, hb⟩ | ⟨h, t, p, G, rfl, hb, hN, h3, h4, rfl, rfl⟩⟩ := h
    · exact ⟨_, by rw [blk_cell hb]; rfl, Or.inl ⟨rfl, rfl, [], [], rfl, by simp, by simp⟩⟩
    · exact ⟨_, by rw [blk_cell hb]; rfl, Or.inr ⟨h, t, p, G, [], [], rfl, rfl, hN, h3, by simp, by simp, by simp⟩⟩
  have Hso : Hid (Sorted l) := h.2.1
  have hv1 : ∃ a, v = .pointer a := by
    rcases HV.out with ⟨_, e, _⟩ | ⟨_, _, p, _, _, _, _, e, _⟩
    · exact ⟨_, e⟩
    · exact ⟨_, e⟩
  obtain ⟨a, rfl⟩ := hv1
  clear h
  go_enter Try.func18, Try.ntmps18
  go_wp2_with fail
  clear c0
  go_loopg [6] ht (fun kx s6 wr => ∃ (a : Option Addr), s6 = .pointer a ∧ Hid (Tch (fun _ => False) w wr) ∧ Hid (Gt wr k l kx (.pointer a)))
  case atStart => exact ⟨a, rfl, Tch.refl _ _, HV⟩
  case round =>
    clear HV
    obtain ⟨a', rfl, HT, HV⟩ := hrel
    rcases HV.out with ⟨e1, e2, hg⟩ | ⟨h, t, p, G, X, Y, e1, e2, hN, hok, hl, hX, hY⟩
    · injection e2 with e2
      subst e2
      have Hg : Hid (Gap k l) := hg
      clear hg HV
      go_wp2_with fail
      go_ret2
      exact ⟨⟨gv0, false, rfl, Or.inr ⟨rfl, rfl, Hg.out⟩⟩, HT.out⟩
    · injection e2 with e2
      subst e2
      obtain ⟨iv, kv, qs, FF, hP, hK, hFe⟩ := NW_iff.1 hN
      have hsu := (ok_iff h t).1 hok
      have he := sub_even h t hsu.2
      have hsf : Sorted (t.flat h) := by have := Hso.out; rw [hl] at this; exact (List.pairwise_append.1 (List.pairwise_append.1 this).2.1).1
      have q := find_any p t.its k iv kv _ wr hP.nd hP.its (its_sorted t he hsf) (by omega)
      have X1 : Hid (NW h wr p t G ∧ t.ok ∧ l = X ++ (t.flat h ++ Y) ∧ (∀ e ∈ X, Lo k e) ∧ ∀ e ∈ Y, Hi k e) := ⟨hN, hok, hl, hX, hY⟩
      have HP : Hid (FN wr p iv kv t.its qs (Nd.flat h t).length) := hP
      have Hev : Hid (t.even) := he
      subst e1
      clear hN hok hl hX hY hP hK hFe hsu he hsf HV
      go_wp2_with fail
      refine q.mono ?_
      rintro x w1 ⟨⟨i, th, rfl, hF⟩, t1⟩
      have HT1 : Hid (Tch (fun _ => False) w w1) := HT.out.trans' t1
      obtain ⟨hN, hok, hl, hX, hY⟩ := X1.out
      have hP1 := HP.out.tch t1 (fun _ _ h => h)
      cases th with
      | true =>
        obtain ⟨it, hit, hk⟩ := hF.at_ rfl
        obtain ⟨hi, hit2⟩ := List.getElem?_eq_some_iff.1 hit
        obtain ⟨g, ic, ei, -, -, -, -, j1, -⟩ := it_at hP1.its hi
        rw [hit2] at j1
        have c0 := hP1.nd.cells.1
        rw [ei] at c0
        obtain ⟨n, hn⟩ : ∃ n, n = t.its.length := ⟨_, rfl⟩
        rw [← hn] at c0
        have hiI : (i : Int) < n := by omega
        have Hr : Hid (GetRel k l it.2 true) := by
          refine get_of_mem Hso.out ?_
          rw [hl]
          have h1 : it ∈ t.its := hit2 ▸ List.getElem_mem hi
          have h2 := (its_sublist t Hev.out).subset h1
          have e : (k, it.2) = it := by rw [← hk]
          rw [e]
          simp [h2]
        clear hN hok hl hX hY hP1 hF hit hit2 hi hk ei hn t1 q
        go_wp2_with fail
        go_ret2
        exact ⟨⟨it.2, true, rfl, Hr.out⟩, HT1.out⟩
      | false =>
        obtain ⟨v, hv, qk⟩ := Gt.kid (hN.tch t1 (fun _ _ h => h)) hok hl hX hY Hso.out hF
        have hv1 : ∃ a, v = .pointer a := by
          rcases hv with ⟨_, e, _⟩ | ⟨_, _, p, _, _, _, _, e, _⟩
          · exact ⟨_, e⟩
          · exact ⟨_, e⟩
        obtain ⟨a2, rfl⟩ := hv1
        have Hv : Hid (Gt w1 k l h (.pointer a2)) := hv
        clear hN hok hl hX hY hP1 hF t1 hv q
        go_wp2_with (go_at_call 38; refine qk.mono ?_; rintro x w2 ⟨rfl, hwx⟩; subst hwx; clear qk)
        go_roundg h
        case measure => omega
        case rel => exact ⟨a2, rfl, HT1, Hv⟩
theorem at_beyond (w : World) (b : Nat) (ht : Nat) (F : List Nat) (h : TW w b [] ht F) : Calls Try.prog 21 #[pv b, .int .i64 0] w fun x w' => x = .returned (.tuple #[.string ⟨#[]⟩, ev gv0, .bool false]) ∧ w' = w := by
  have q := len_t w b [] ht F h
  clear h
  go_enter Try.func21, Try.ntmps21
  go_wp2_with (go_at_call 20; refine q.mono ?_; rintro x w1 ⟨rfl, rfl⟩)
  refine bodyPost_ret (results_tmp3 (t := 4) (u := 5) (v := 6) (by kernel_rfl) _ _ _) rfl ?_
  exact ⟨rfl, rfl⟩
end Go.Proofs.Ytnjiiebjdpipjaa.S
/- A tree of one's own. -/
namespace Go.Proofs.Ytnjiiebjdpipjaa.S
open Go.RowKit Go

/-- A tree of one's own: all its blocks are new. -/
def TO (w W : World) (b : Nat) (l : List It) (ht : Nat) : Prop := ∃ F, TW W b l ht F ∧ (∀ x ∈ F, w.heap.size ≤ x) ∧ Tch (fun _ => False) w W
theorem TO.no {w W W' : World} {b : Nat} {l : List It} {ht : Nat} (h : TO w W b l ht) (t : Tch (fun _ => False) W W') : TO w W' b l ht := by
  obtain ⟨F, h1, h2, h3⟩ := h
  exact ⟨F, h1.tch t (fun _ _ h => h), h2, h3.trans' t⟩
theorem TO.step {w W W' : World} {b : Nat} {l' : List It} {ht' : Nat} {F F' : List Nat} (h2 : ∀ x ∈ F, w.heap.size ≤ x) (h3 : Tch (fun _ => False) w W) (h' : TW W' b l' ht' F') (hf : Fits W.heap.size F F') (t : Tch (fun i => i ∈ F) W W') : TO w W' b l' ht' := by
  refine ⟨F', h', fun x hx => ?_, h3.trans t (fun i hi hm => by have := h2 i hm; omega)⟩
  rcases hf.old hx with h6 | h6
  · exact h2 x h6
  · exact Nat.le_trans h3.size h6
theorem TO.sorted {w W : World} {b : Nat} {l : List It} {ht : Nat} (h : TO w W b l ht) : Sorted l := by obtain ⟨F, h1, _, _⟩ := h; exact h1.2.1
theorem new_o (w : World) : Calls Try.prog 35 #[] w fun x w' => ∃ b, x = .returned (pv b) ∧ TO w w' b [] 0 := by
  refine (new_t w).mono ?_
  rintro x w' ⟨rfl, h1, h2⟩
  exact ⟨_, rfl, _, h1, fun x hx => by rw [List.mem_singleton.1 hx]; exact Nat.le_refl _, h2⟩
theorem put_o {w W : World} {b : Nat} {l : List It} {ht : Nat} (h : TO w W b l ht) (hl : l.length < 900000000000000000) (k : ByteArray) (v : GV) : Calls Try.prog 36 #[pv b, .string k, ev v] W fun x w' => ∃ l' ht' old th, x = .returned (.tuple #[ev old, .bool th]) ∧ TO w w' b l' ht' ∧ PutRel k v l l' old th := by
  obtain ⟨F, h1, h2, h3⟩ := h
  refine (put_t W b l ht F k v h1 hl).mono ?_
  rintro x w' ⟨l', ht', F', old, th, rfl, h4, h5, h6, h7⟩
  exact ⟨l', ht', old, th, rfl, TO.step h2 h3 h4 h6 h7, h5⟩
theorem del_o {w W : World} {b : Nat} {l : List It} {ht : Nat} (h : TO w W b l ht) (hl : l.length < 900000000000000000) (k : ByteArray) : Calls Try.prog 17 #[pv b, .string k] W fun x w' => ∃ l' ht' old th, x = .returned (.tuple #[ev old, .bool th]) ∧ TO w w' b l' ht' ∧ RemRel k l l' old th := by
  obtain ⟨F, h1, h2, h3⟩ := h
  refine (del_t W b l ht F k h1 hl).mono ?_
  rintro x w' ⟨l', ht', F', old, th, rfl, h4, h5, h6, h7⟩
  exact ⟨l', ht', old, th, rfl, TO.step h2 h3 h4 h6 h7, h5⟩
theorem get_o {w W : World} {b : Nat} {l : List It} {ht : Nat} (h : TO w W b l ht) (k : ByteArray) : Calls Try.prog 18 #[pv b, .string k] W fun x w' => ∃ v th, x = .returned (.tuple #[ev v, .bool th]) ∧ TO w w' b l ht ∧ GetRel k l v th := by
  obtain ⟨F, h1, h2, h3⟩ := h
  refine (get_t W b l ht F k h1).mono ?_
  rintro x w' ⟨⟨v, th, rfl, h4⟩, h5⟩
  exact ⟨v, th, rfl, ⟨F, h1.tch h5 (fun _ _ h => h), h2, h3.trans' h5⟩, h4⟩
theorem len_o {w W : World} {b : Nat} {l : List It} {ht : Nat} (h : TO w W b l ht) : Calls Try.prog 20 #[pv b] W fun x w' => x = .returned (.int .i64 l.length) ∧ w' = W := by
  obtain ⟨F, h1, h2, h3⟩ := h
  exact len_t W b l ht F h1
theorem TO.floors {w W : World} {b : Nat} {l : List It} {ht : Nat} (h : TO w W b l ht) : (l.length = 0 ∧ ht = 0) ∨ (1 ≤ l.length ∧ 1 ≤ ht ∧ 2 * 8 ^ (ht - 1) ≤ l.length + 1 ∧ l.length + 1 ≤ 16 ^ ht) := by
  obtain ⟨F, h1, h2, h3⟩ := h
  exact h1.floors
/-- There are few floors where there are few items. -/
theorem TO.low {w W : World} {b : Nat} {l : List It} {ht : Nat} (h : TO w W b l ht) (hl : l.length < 1000000) : ht ≤ 8 := by
  rcases h.floors with ⟨_, rfl⟩ | ⟨_, h2, h3, _⟩
  · omega
  · rcases Nat.lt_or_ge 8 ht with h9 | h9
    · exfalso
      have : 8 ^ 8 ≤ 8 ^ (ht - 1) := Nat.pow_le_pow_right (by omega) (by omega)
      have e : 8 ^ 8 = 16777216 := by decide
      omega
    · exact h9
theorem height_o {w W : World} {b : Nat} {l : List It} {ht : Nat} (h : TO w W b l ht) (hl : l.length < 1000000) : Calls Try.prog 23 #[pv b] W fun x w' => x = .returned (.int .i64 ht) ∧ w' = W := by
  have h9 := h.low hl
  obtain ⟨F, h1, h2, h3⟩ := h
  exact height_t W b l ht F h1 (by omega)
end Go.Proofs.Ytnjiiebjdpipjaa.S
/- filled of the law: a tree of strings with just these keys. -/
namespace Go.Proofs.Ytnjiiebjdpipjaa.S
open Go.RowKit Go

/-- A list of strings for reading. -/
def SR (w : World) (ao : Option Addr) (l : List ByteArray) : Prop := ∀ k n, l[k]? = some n → ∃ g o, ao = some ⟨g, o, none⟩ ∧ w.cell? ⟨g, o + k, none⟩ = some (.string n)
theorem SR.no {w w' : World} {ao : Option Addr} {l : List ByteArray} (h : SR w ao l) (t : Tch (fun _ => False) w w') : SR w' ao l := fun k n hk => by
  obtain ⟨g, o, e, hc⟩ := h k n hk
  exact ⟨g, o, e, by rw [t.cell (p := ⟨g, o + k, none⟩) (cell_lt hc) (fun h => h)]; exact hc⟩
/-- Just these keys are there, each with itself as its value. -/
def FE (l : List It) (S : ByteArray → Prop) : Prop := ∀ e, e ∈ l ↔ S e.1 ∧ e.2 = e.1
theorem FE.put {l l' : List It} {k : ByteArray} {S : ByteArray → Prop} {old : GV} {th : Bool} (h : FE l S) (hr : PutRel k k l l' old th) : FE l' (fun y => S y ∨ y = k) ∧ l'.length ≤ l.length + 1 := by
  rcases hr with ⟨_, a, b, _, _, rfl, rfl⟩ | ⟨_, _, a, b, _, _, rfl, rfl⟩
  · have h1 : (k, old) ∈ a ++ (k, old) :: b := by simp
    obtain ⟨hS, e0⟩ := (h _).1 h1
    simp only at hS e0
    subst e0
    refine ⟨fun e => ?_, by simp⟩
    rw [h e]
    exact ⟨fun ⟨h2, h3⟩ => ⟨Or.inl h2, h3⟩, fun ⟨h2, h3⟩ => ⟨h2.elim id (fun e => e ▸ hS), h3⟩⟩
  · refine ⟨fun e => ?_, by simp only [List.length_append, List.length_cons]; omega⟩
    have h1 := h e
    simp only [List.mem_append, List.mem_cons] at h1 ⊢
    constructor
    · rintro (h2 | h2 | h2)
      · obtain ⟨h3, h4⟩ := h1.1 (Or.inl h2); exact ⟨Or.inl h3, h4⟩
      · subst h2; exact ⟨Or.inr rfl, rfl⟩
      · obtain ⟨h3, h4⟩ := h1.1 (Or.inr h2); exact ⟨Or.inl h3, h4⟩
    · rintro ⟨h4 | h4, h5⟩
      · rcases h1.2 ⟨h4, h5⟩ with h6 | h6
        · exact Or.inl h6
        · exact Or.inr (Or.inr h6)
      · exact Or.inr (Or.inl (by
          obtain ⟨e1, e2⟩ := e
          simp only at h4 h5
          rw [h5, h4]))
theorem FE.congr {l : List It} {S T : ByteArray → Prop} (h : FE l S) (hT : ∀ x, S x ↔ T x) : FE l T := fun e => by rw [h e, hT e.1]
/-- The law's tree. -/
def FS (w W : World) (b : Nat) (S : ByteArray → Prop) (m : Nat) : Prop := ∃ l ht, TO w W b l ht ∧ FE l S ∧ l.length ≤ m
theorem FS.no {w W W' : World} {b m : Nat} {S : ByteArray → Prop} (h : FS w W b S m) (t : Tch (fun _ => False) W W') : FS w W' b S m := by
  obtain ⟨l, ht, h1, h2, h3⟩ := h
  exact ⟨l, ht, h1.no t, h2, h3⟩
theorem FS.tch {w W : World} {b m : Nat} {S : ByteArray → Prop} (h : FS w W b S m) : Tch (fun _ => False) w W := by
  obtain ⟨l, ht, ⟨F, _, _, t⟩, _, _⟩ := h
  exact t
theorem FS.put {w W : World} {b m : Nat} {S : ByteArray → Prop} (h : FS w W b S m) (hm : m < 900000000000000000) (k : ByteArray) : Calls Try.prog 36 #[pv b, .string k, .string k] W fun y w' => ∃ old th, y = .returned (.tuple #[ev old, .bool th]) ∧ FS w w' b (fun y => S y ∨ y = k) (m + 1) := by
  obtain ⟨l, ht, h1, h2, h3⟩ := h
  refine (put_o h1 (by omega) k k).mono ?_
  rintro y w' ⟨l', ht', old, th, rfl, h4, h5⟩
  obtain ⟨h6, h7⟩ := h2.put h5
  exact ⟨old, th, rfl, l', ht', h4, h6, by omega⟩
/-- The keys that the first loop takes. -/
def Ky (l : List ByteArray) (i : Nat) (x : ByteArray) : Prop := x ∈ l.take i
theorem Ky_succ {l : List ByteArray} {i : Nat} {k : ByteArray} (h : l[i]? = some k) (x : ByteArray) : (Ky l i x ∨ x = k) ↔ Ky l (i + 1) x := by
  unfold Ky
  rw [List.take_add_one, h]
  simp
set_option maxHeartbeats 2000000 in
set_option maxRecDepth 100000 in
theorem filled_any (l : List ByteArray) (ao : Option Addr) (cp : Nat) (w : World) (h : SR w ao l) (hl : l.length ≤ 9223372036854775807) :
    Calls Try.prog 16 #[.slice ao l.length cp] w fun x w' => ∃ b, x = .returned (pv b) ∧ FS w w' b (Ky l 2000) 2000 := by
  have q := new_o w
  obtain ⟨n, hn⟩ : ∃ n, n = l.length := ⟨_, rfl⟩
  have Hn : Hid (n = l.length) := hn
  have HS : Hid (SR w ao l) := h
  have hnI : (n : Int) ≤ 9223372036854775807 := by omega
  rw [← hn]
  clear h hl hn
  go_enter Try.func16, Try.ntmps16
  go_wp2_with fail
  refine q.mono ?_
  rintro x w1 ⟨b, rfl, h1⟩
  clear q
  have H1 : Hid (FS w w1 b (Ky l 0) 0) := ⟨[], 0, h1, fun e => by simp [Ky], Nat.le_refl _⟩
  clear h1
  go_wp2_with fail
  go_loopw [4] (fun s4 wr => ∃ (W : World) (i : Nat), W = wr ∧ s4 = .int .i64 i ∧ i ≤ 2000 ∧ i ≤ n ∧ Hid (FS w W b (Ky l i) i)) (fun s4 _ => 2000 - (intOf s4).toNat)
  case atStart => exact ⟨_, 0, rfl, rfl, by omega, by omega, H1⟩
  case round =>
    obtain ⟨wr, i, rfl, rfl, hi, hin, HF⟩ := hrel
    clear H1
    by_cases hlt : (i : Int) < n
    · by_cases h2 : (i : Int) < 2000
      · obtain ⟨k, hk⟩ : ∃ k, l[i]? = some k := ⟨l[i]'(by have := Hn.out; omega), List.getElem?_eq_getElem _⟩
        obtain ⟨g, o, e, hc⟩ := (HS.out.no HF.out.tch) i k hk
        subst e
        have HP : Hid (∀ m, Calls Try.prog 36 #[pv b, .string k, .string k] (wr.drewN m) fun y w' => ∃ old th, y = .returned (.tuple #[ev old, .bool th]) ∧ FS w w' b (fun y => Ky l i y ∨ y = k) (i + 1)) := fun m => (HF.out.no ((Tch.refl _ wr).drewN m)).put (by omega) k
        have Hk : Hid (l[i]? = some k) := hk
        clear hk HF
        go_wp2_with fail
        refine wp_region_drew_tail 9 (by kernel_rfl) (by kernel_rfl) ?_
        simp only [List.take_succ_cons, List.take_zero, List.drop_succ_cons, List.drop_zero]
        repeat (quiet_step (fail))
        refine wpQuiet_nil ?_
        rintro w3 ⟨m, rfl⟩
        go_wp2_with fail
        refine (HP.out m).mono ?_
        rintro x w4 ⟨old, th, rfl, h4⟩
        have H4 : Hid (FS w w4 b (Ky l (i + 1)) (i + 1)) := by
          obtain ⟨l4, ht4, a1, a2, a3⟩ := h4
          exact ⟨l4, ht4, a1, a2.congr (Ky_succ Hk.out), a3⟩
        clear h4 hc HP
        go_wp2_with fail
        go_roundw
        case measure => simp [intOf]; omega
        case rel => exact ⟨_, i + 1, rfl, by go_num, by omega, by omega, H4⟩
      · obtain rfl : i = 2000 := by omega
        go_wp2_with fail
        go_ret
        exact ⟨b, rfl, HF.out⟩
    · have hln : l.length ≤ i := by have := Hn.out; omega
      have H4 : Hid (FS w wr b (Ky l 2000) 2000) := by
        obtain ⟨l4, ht4, a1, a2, a3⟩ := HF.out
        refine ⟨l4, ht4, a1, a2.congr (fun x => ?_), by omega⟩
        unfold Ky
        rw [List.take_of_length_le hln, List.take_of_length_le (by omega)]
      clear HF hln
      go_wp2_with fail
      go_ret
      exact ⟨b, rfl, H4.out⟩
end Go.Proofs.Ytnjiiebjdpipjaa.S
/- Delete and Get of the law's tree of strings. -/
namespace Go.Proofs.Ytnjiiebjdpipjaa.S
open Go.RowKit Go

theorem gap_not {k : ByteArray} {l : List It} (h : Gap k l) {v : GV} : (k, v) ∉ l := by
  intro hin
  obtain ⟨a, b, rfl, ha, hb⟩ := h
  have hself := kc_self k
  rcases List.mem_append.1 hin with h1 | h1
  · have := ha _ h1; unfold Lo at this; simp only at this; omega
  · have := hb _ h1; unfold Hi at this; simp only at this; omega
theorem FE.del {l l' : List It} {k : ByteArray} {S : ByteArray → Prop} {old : GV} {th : Bool} (h : FE l S) (hr : RemRel k l l' old th) : ((th = true ∧ old = k ∧ S k) ∨ (th = false ∧ old = ⟨#[]⟩ ∧ ¬ S k)) ∧ FE l' (fun y => S y ∧ y ≠ k) ∧ l'.length ≤ l.length := by
  have hself := kc_self k
  rcases hr with ⟨rfl, hi⟩ | ⟨rfl, rfl, rfl, hg⟩
  · have hlen := hi.len
    obtain ⟨a, b, ha, hb, rfl, rfl⟩ := hi
    have h1 : (k, old) ∈ a ++ (k, old) :: b := by simp
    obtain ⟨hS, e0⟩ := (h _).1 h1
    simp only at hS e0
    subst e0
    refine ⟨Or.inl ⟨rfl, rfl, hS⟩, fun e => ?_, by omega⟩
    have h2 := h e
    simp only [List.mem_append, List.mem_cons] at h2 ⊢
    constructor
    · rintro (h3 | h3)
      · obtain ⟨h5, h6⟩ := h2.1 (Or.inl h3)
        refine ⟨⟨h5, fun eq => ?_⟩, h6⟩
        have := ha e h3
        unfold Lo at this
        rw [eq] at this
        omega
      · obtain ⟨h5, h6⟩ := h2.1 (Or.inr (Or.inr h3))
        refine ⟨⟨h5, fun eq => ?_⟩, h6⟩
        have := hb e h3
        unfold Hi at this
        rw [eq] at this
        omega
    · rintro ⟨⟨h5, h7⟩, h6⟩
      rcases h2.2 ⟨h5, h6⟩ with h8 | h8 | h8
      · exact Or.inl h8
      · exact absurd (congrArg Prod.fst h8) h7
      · exact Or.inr h8
  · have hn : ¬ S k := fun hS => gap_not hg ((h (k, k)).2 ⟨hS, rfl⟩)
    refine ⟨Or.inr ⟨rfl, rfl, hn⟩, fun e => ?_, Nat.le_refl _⟩
    rw [h e]
    exact ⟨fun ⟨h1, h2⟩ => ⟨⟨h1, fun eq => hn (eq ▸ h1)⟩, h2⟩, fun ⟨h1, h2⟩ => ⟨h1.1, h2⟩⟩
theorem FE.get {l : List It} {k : ByteArray} {S : ByteArray → Prop} {v : GV} {th : Bool} (h : FE l S) (hr : GetRel k l v th) : (th = true ∧ v = k ∧ S k) ∨ (th = false ∧ v = ⟨#[]⟩ ∧ ¬ S k) := by
  rcases hr with ⟨rfl, x, y, rfl, _, _⟩ | ⟨rfl, rfl, hg⟩
  · obtain ⟨hS, e0⟩ := (h (k, v)).1 (by simp)
    exact Or.inl ⟨rfl, e0, hS⟩
  · exact Or.inr ⟨rfl, rfl, fun hS => gap_not hg ((h (k, k)).2 ⟨hS, rfl⟩)⟩
theorem FS.del {w W : World} {b m : Nat} {S : ByteArray → Prop} (h : FS w W b S m) (hm : m < 900000000000000000) (k : ByteArray) : Calls Try.prog 17 #[pv b, .string k] W fun y w' => ∃ old th, y = .returned (.tuple #[ev old, .bool th]) ∧ ((th = true ∧ old = k ∧ S k) ∨ (th = false ∧ old = ⟨#[]⟩ ∧ ¬ S k)) ∧ FS w w' b (fun y => S y ∧ y ≠ k) m := by
  obtain ⟨l, ht, h1, h2, h3⟩ := h
  refine (del_o h1 (by omega) k).mono ?_
  rintro y w' ⟨l', ht', old, th, rfl, h4, h5⟩
  obtain ⟨h6, h7, h8⟩ := h2.del h5
  exact ⟨old, th, rfl, h6, l', ht', h4, h7, by omega⟩
theorem FS.get {w W : World} {b m : Nat} {S : ByteArray → Prop} (h : FS w W b S m) (k : ByteArray) : Calls Try.prog 18 #[pv b, .string k] W fun y w' => ∃ v th, y = .returned (.tuple #[ev v, .bool th]) ∧ ((th = true ∧ v = k ∧ S k) ∨ (th = false ∧ v = ⟨#[]⟩ ∧ ¬ S k)) ∧ FS w w' b S m := by
  obtain ⟨l, ht, h1, h2, h3⟩ := h
  refine (get_o h1 k).mono ?_
  rintro y w' ⟨v, th, rfl, h4, h5⟩
  exact ⟨v, th, rfl, h2.get h5, l, ht, h4, h2, h3⟩
end Go.Proofs.Ytnjiiebjdpipjaa.S
