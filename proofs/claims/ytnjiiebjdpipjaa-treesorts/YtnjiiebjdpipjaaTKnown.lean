import Derived.Test.YtnjiiebjdpipjaaTTDel
import Derived.Test.YtnjiiebjdpipjaaTFloor
/- New, Len, Height, Get of a tree. -/
namespace Go.Proofs.Ytnjiiebjdpipjaa
open Go.RowKit Go

theorem new_t (w : World) : Calls Try.prog 7 #[] w fun x w' => x = .returned (pv w.heap.size) ∧ TW w' w.heap.size [] 0 [w.heap.size] ∧ Tch (fun _ => False) w w' := by
  have hnB : Nod [w.heap.size] := fun x => by rw [List.count_singleton]; split <;> omega
  have HF : Hid (TW (w.alloc (.cells #[.pointer none] 64)) w.heap.size [] 0 [w.heap.size]) := ⟨hnB, List.Pairwise.nil, Or.inl ⟨rfl, rfl, rfl, alloc_new _ _⟩⟩
  go_enter Try.func7, Try.ntmps7
  go_wp2_with fail
  go_ret
  exact ⟨rfl, HF.out, Tch.alloc _ _ _⟩
theorem len_t (w : World) (b : Nat) (l : List It) (ht : Nat) (F : List Nat) (h : TW w b l ht F) : Calls Try.prog 13 #[pv b] w fun x w' => x = .returned (.int .i64 l.length) ∧ w' = w := by
  obtain ⟨h1, h2, ⟨rfl, rfl, rfl, hb⟩ | ⟨h, t, p, G, rfl, hb, hN, h3, h4, rfl, rfl⟩⟩ := h
  · have c0 : w.cell? ⟨b, 0, none⟩ = some (.pointer none) := by rw [blk_cell hb]; rfl
    have q := count_nil w
    clear hb h1 h2
    go_enter Try.func13, Try.ntmps13
    go_wp2_with (go_at_call 32; refine q.mono ?_; rintro x w1 ⟨rfl, rfl⟩)
    go_ret
    exact ⟨rfl, rfl⟩
  · have c0 : w.cell? ⟨b, 0, none⟩ = some (pv p) := by rw [blk_cell hb]; rfl
    obtain ⟨s, hs⟩ : ∃ s : Int, s = ((Nd.flat h t).length : Int) := ⟨_, rfl⟩
    have q := count_any p s w (by rw [hs]; exact hN.size.1)
    rw [← hs]
    clear hb h1 h2 hN h3 h4 hs
    go_enter Try.func13, Try.ntmps13
    go_wp2_with (go_at_call 32; refine q.mono ?_; rintro x w1 ⟨rfl, rfl⟩)
    go_ret
    exact ⟨rfl, rfl⟩
/-- What is told of a node at so many floors from the ground: nothing, or a pointer. -/
def Fl (w : World) (j : Nat) (v : Value) : Prop := (j = 0 ∧ v = .pointer none) ∨ ∃ (h : Nat) (t : Nd It h) (p : Nat) (G : List Nat), j = h + 1 ∧ v = pv p ∧ NW h w p t G ∧ t.ok
theorem Fl.kid {w : World} {h : Nat} {t : Nd It h} {p : Nat} {G : List Nat} (hN : NW h w p t G) (hok : t.ok) : ∃ v, Fl w h v ∧ Calls Try.prog 31 #[pv p, .int .i64 0] w fun x w' => x = .returned v ∧ w' = w := by
  obtain ⟨iv, kv, qs, FF, hP, hK, rfl⟩ := NW_iff.1 hN
  have hs := (ok_iff h t).1 hok
  have he := sub_even h t hs.2
  cases h with
  | zero =>
    have e : qs = [] := hK.1
    subst e
    exact ⟨.pointer none, Or.inl ⟨rfl, rfl⟩, kid_none p 0 iv kv _ _ w hP⟩
  | succ h =>
    obtain ⟨ks, rfl, e2, rfl, h3⟩ := hK
    have h9 : t.2.length = t.1.length + 1 := he
    have hts := hs.2.2
    cases ks with
    | nil => rw [e2] at h9; simp at h9
    | cons x ks =>
      have hx := h3 x (by simp)
      refine ⟨pv x.1, Or.inr ⟨h, x.2.1, x.1, x.2.2, rfl, rfl, hx, (hts x.2.1 (by rw [e2]; simp)).1⟩, ?_⟩
      have h15 : t.1.length ≤ 15 := hs.1
      have := kid_some p 0 iv kv _ _ _ w hP (by simp) (by rw [List.length_map]; have h10 := congrArg List.length e2; rw [List.length_map] at h10; omega)
      simpa using this
set_option maxHeartbeats 2000000 in
set_option maxRecDepth 100000 in
theorem height_t (w : World) (b : Nat) (l : List It) (ht : Nat) (F : List Nat) (h : TW w b l ht F) (hht : ht < 1000000) : Calls Try.prog 12 #[pv b] w fun x w' => x = .returned (.int .i64 ht) ∧ w' = w := by
  obtain ⟨v, c0, HV⟩ : ∃ v, w.cell? ⟨b, 0, none⟩ = some v ∧ Hid (Fl w ht v) := by
    obtain ⟨h1, h2, ⟨rfl, rfl, rfl, hb⟩ | ⟨h, t, p, G, rfl, hb, hN, h3, h4, rfl, rfl⟩⟩ := h
    · exact ⟨_, by rw [blk_cell hb]; rfl, Or.inl ⟨rfl, rfl⟩⟩
    · exact ⟨_, by rw [blk_cell hb]; rfl, Or.inr ⟨h, t, p, G, rfl, rfl, hN, h3⟩⟩
  have hv1 : ∃ a, v = .pointer a := by
    rcases HV.out with ⟨_, e⟩ | ⟨_, _, p, _, _, e, _⟩
    · exact ⟨_, e⟩
    · exact ⟨_, e⟩
  obtain ⟨a, rfl⟩ := hv1
  clear h
  go_enter Try.func12, Try.ntmps12
  go_wp2_with fail
  clear c0
  go_loopg [3, 4] ht (fun kx s3 s4 wr => ∃ (i : Nat) (a : Option Addr), s3 = .int .i64 i ∧ s4 = .pointer a ∧ i + kx = ht ∧ wr = w ∧ Hid (Fl w kx (.pointer a)))
  case atStart => exact ⟨0, a, rfl, rfl, by omega, rfl, HV⟩
  case round =>
    clear HV
    obtain ⟨i, a', rfl, rfl, hi, rfl, HV⟩ := hrel
    rcases HV.out with ⟨e1, e2⟩ | ⟨h, t, p, G, e1, e2, hN, hok⟩
    · injection e2 with e2
      subst e2
      subst e1
      obtain rfl : i = ht := by omega
      go_wp2_with fail
      go_ret
      exact ⟨rfl, rfl⟩
    · injection e2 with e2
      subst e2
      obtain ⟨v, hv, q⟩ := Fl.kid hN hok
      have hv1 : ∃ a, v = .pointer a := by
        rcases hv with ⟨_, e⟩ | ⟨_, _, p, _, _, e, _⟩
        · exact ⟨_, e⟩
        · exact ⟨_, e⟩
      obtain ⟨a2, rfl⟩ := hv1
      have Hv : Hid (Fl wr h (.pointer a2)) := hv
      have hi6 : (i : Int) < 1000000 := by omega
      subst e1
      clear hN hok hv HV
      go_wp2_with (go_at_call 31; refine q.mono ?_; rintro x w1 ⟨rfl, hwx⟩; subst hwx; clear q)
      go_roundg h
      case measure => omega
      case rel => exact ⟨i + 1, a2, by go_num, rfl, by omega, rfl, Hv⟩
/-- What Get tells. -/
def GetRel (k : ByteArray) (l : List It) (v : GV) (th : Bool) : Prop := (th = true ∧ ∃ x y, l = x ++ (k, v) :: y ∧ (∀ e ∈ x, Lo k e) ∧ ∀ e ∈ y, Hi k e) ∨ (th = false ∧ v = gv0 ∧ Gap k l)
/-- A node in which a key is, if it is anywhere. -/
def Gt (w : World) (k : ByteArray) (l : List It) (j : Nat) (v : Value) : Prop := (j = 0 ∧ v = .pointer none ∧ Gap k l) ∨ ∃ (h : Nat) (t : Nd It h) (p : Nat) (G X Y : List _), j = h + 1 ∧ v = pv p ∧ NW h w p t G ∧ t.ok ∧ l = X ++ (t.flat h ++ Y) ∧ (∀ e ∈ X, Lo k e) ∧ ∀ e ∈ Y, Hi k e
end Go.Proofs.Ytnjiiebjdpipjaa
/- Get of a tree; At beyond its items. -/
namespace Go.Proofs.Ytnjiiebjdpipjaa
open Go.RowKit Go

theorem sorted_uniq {l : List It} (hs : Sorted l) {k : ByteArray} {v v' : GV} (h1 : (k, v) ∈ l) (h2 : (k, v') ∈ l) : v = v' := by
  induction l with
  | nil => simp at h1
  | cons a l ih =>
    obtain ⟨p1, p2⟩ := List.pairwise_cons.1 hs
    rcases List.mem_cons.1 h1 with e1 | e1 <;> rcases List.mem_cons.1 h2 with e2 | e2
    · rw [← e1] at e2; injection e2 with _ e2; exact e2.symm
    · have h3 := p1 _ e2
      rw [← e1] at h3
      unfold KL at h3
      have := kc_self k
      simp only at h3
      omega
    · have h3 := p1 _ e1
      rw [← e2] at h3
      unfold KL at h3
      have := kc_self k
      simp only at h3
      omega
    · exact ih p2 e1 e2
theorem get_of_mem {l : List It} (hs : Sorted l) {k : ByteArray} {v : GV} (h : (k, v) ∈ l) : GetRel k l v true := by
  obtain ⟨x, y, rfl⟩ := List.append_of_mem h
  refine Or.inl ⟨rfl, x, y, rfl, fun e he => ?_, fun e he => ?_⟩
  · exact (List.pairwise_append.1 hs).2.2 e he (k, v) (by simp)
  · have h3 := (List.pairwise_cons.1 (List.pairwise_append.1 hs).2.1).1 e he
    unfold KL at h3
    have := kc_flip k e.1
    unfold Hi
    simp only at h3
    omega
theorem Gt.kid {w : World} {k : ByteArray} {l : List It} {h : Nat} {t : Nd It h} {p i : Nat} {G : List Nat} {X Y : List It} (hN : NW h w p t G) (hok : t.ok) (hl : l = X ++ (t.flat h ++ Y)) (hX : ∀ e ∈ X, Lo k e) (hY : ∀ e ∈ Y, Hi k e) (hs : Sorted l) (hF : Found t.its k i false) : ∃ v, Gt w k l h v ∧ Calls Try.prog 31 #[pv p, .int .i64 i] w fun x w' => x = .returned v ∧ w' = w := by
  obtain ⟨iv, kv, qs, FF, hP, hK, rfl⟩ := NW_iff.1 hN
  have hsu := (ok_iff h t).1 hok
  have he := sub_even h t hsu.2
  cases h with
  | zero =>
    have e : qs = [] := hK.1
    subst e
    refine ⟨.pointer none, Or.inl ⟨rfl, rfl, X ++ t.its.take i, t.its.drop i ++ Y, ?_, fun e he => (List.mem_append.1 he).elim (hX e) (hF.lo e), fun e he => (List.mem_append.1 he).elim (hF.hi rfl e) (hY e)⟩, kid_none p i iv kv _ _ w hP⟩
    have h0 : t.flat 0 = t.its.take i ++ t.its.drop i := (List.take_append_drop i t.its).symm
    rw [hl, h0, List.append_assoc, List.append_assoc]
  | succ h =>
    obtain ⟨ka, kb, kk, et, hka, hkb, hma, hmb, hmk⟩ := node_at t i hF.le he
    have hA : (t.1.take i).length = i := by rw [List.length_take]; have : i ≤ t.1.length := hF.le; omega
    have hfl : Nd.flat (h + 1) t = mix (t.1.take i) (ka.map (Nd.flat h) ++ [[]]) ++ (kk.flat h ++ mix (t.1.drop i) ([] :: kb.map (Nd.flat h))) := by
      have h8 := kid_mid h (t.1.take i) (t.1.drop i) ka kb kk (by omega)
      rw [← et] at h8
      exact h8
    have hsf : Sorted (Nd.flat (h + 1) t) := by rw [hl] at hs; exact (List.pairwise_append.1 (List.pairwise_append.1 hs).2.1).1
    rw [hfl] at hsf
    obtain ⟨p1, p2, _⟩ := List.pairwise_append.mp hsf
    obtain ⟨_, p3, _⟩ := List.pairwise_append.mp p2
    have hX' := ahead_all KL (Lo k) (fun e e' => Lo.of) (t.1.take i) (ka.map (Nd.flat h)) (by rw [List.length_map]; omega) p1 hF.lo
    have hY' := behind_all KL (Hi k) (fun e e' => Hi.of) (t.1.drop i) (kb.map (Nd.flat h)) p3 (hF.hi rfl)
    have hN' : KidsOf (NW h w) (ka ++ kk :: kb) qs FF := by
      have hk : KidsOf (NW h w) t.2 qs FF := hK
      have e2 : t.2 = ka ++ kk :: kb := congrArg Prod.snd et
      rw [e2] at hk
      exact hk
    obtain ⟨k1, k2, q, Fk, rfl, rfl, rfl, rfl, hq, h1, h2⟩ := kids_at hN'
    have hki : (kP k1 ++ q :: kP k2)[i]? = some q := by rw [List.getElem?_append_right (by rw [kP_len]; omega), kP_len, hka, Nat.sub_self]; rfl
    obtain ⟨hilt, hki2⟩ := List.getElem?_eq_some_iff.1 hki
    have h15 : t.1.length ≤ 15 := hsu.1
    have hkid := kid_some p i iv kv _ _ _ w hP hilt (by simp only [List.length_append, List.length_cons, kP_len]; have h10 := hsu.2.1; have e2 : t.2 = _ := congrArg Prod.snd et; have h11 := congrArg List.length e2; simp only [List.length_append, List.length_cons] at h11; omega)
    rw [hki2] at hkid
    refine ⟨pv q, Or.inr ⟨h, kk, q, Fk, X ++ mix (t.1.take i) ((kT k1).map (Nd.flat h) ++ [[]]), mix (t.1.drop i) ([] :: (kT k2).map (Nd.flat h)) ++ Y, rfl, rfl, hq, (hsu.2.2 kk hmk).1, ?_, fun e he => (List.mem_append.1 he).elim (hX e) (hX' e), fun e he => (List.mem_append.1 he).elim (hY' e) (hY e)⟩, hkid⟩
    rw [hl, hfl]
    simp
set_option maxHeartbeats 2000000 in
set_option maxRecDepth 100000 in
theorem get_t (w : World) (b : Nat) (l : List It) (ht : Nat) (F : List Nat) (k : ByteArray) (h : TW w b l ht F) : Calls Try.prog 28 #[pv b, .string k] w fun x w' => (∃ v th, x = .returned (.tuple #[ev v, .bool th]) ∧ GetRel k l v th) ∧ Tch (fun _ => False) w w' := by
  obtain ⟨v, c0, HV⟩ : ∃ v, w.cell? ⟨b, 0, none⟩ = some v ∧ Hid (Gt w k l ht v) := by
    obtain ⟨h1, h2, ⟨rfl, rfl, rfl, hb⟩ | ⟨h, t, p, G, rfl, hb, hN, h3, h4, rfl, rfl⟩⟩ := h
    · exact ⟨_, by rw [blk_cell hb]; rfl, Or.inl ⟨rfl, rfl, [], [], rfl, by simp, by simp⟩⟩
    · exact ⟨_, by rw [blk_cell hb]; rfl, Or.inr ⟨h, t, p, G, [], [], rfl, rfl, hN, h3, by simp, by simp, by simp⟩⟩
  have Hso : Hid (Sorted l) := h.2.1
  have hv1 : ∃ a, v = .pointer a := by
    rcases HV.out with ⟨_, e, _⟩ | ⟨_, _, p, _, _, _, _, e, _⟩
    · exact ⟨_, e⟩
    · exact ⟨_, e⟩
  obtain ⟨a, rfl⟩ := hv1
  clear h
  go_enter Try.func28, Try.ntmps28
  go_wp2_with fail
  clear c0
  go_loopg [6] ht (fun kx s6 wr => ∃ (a : Option Addr), s6 = .pointer a ∧ Hid (Tch (fun _ => False) w wr) ∧ Hid (Gt wr k l kx (.pointer a)))
  case atStart => exact ⟨a, rfl, Tch.refl _ _, HV⟩
  case round =>
    clear HV
    obtain ⟨a', rfl, HT, HV⟩ := hrel
    rcases HV.out with ⟨e1, e2, hg⟩ | ⟨h, t, p, G, X, Y, e1, e2, hN, hok, hl, hX, hY⟩
    · injection e2 with e2
      subst e2
      have Hg : Hid (Gap k l) := hg
      clear hg HV
      go_wp2_with fail
      go_ret2
      exact ⟨⟨gv0, false, rfl, Or.inr ⟨rfl, rfl, Hg.out⟩⟩, HT.out⟩
    · injection e2 with e2
      subst e2
      obtain ⟨iv, kv, qs, FF, hP, hK, hFe⟩ := NW_iff.1 hN
      have hsu := (ok_iff h t).1 hok
      have he := sub_even h t hsu.2
      have hsf : Sorted (t.flat h) := by have := Hso.out; rw [hl] at this; exact (List.pairwise_append.1 (List.pairwise_append.1 this).2.1).1
      have q := find_any p t.its k iv kv _ wr hP.nd hP.its (its_sorted t he hsf) (by omega)
      have X1 : Hid (NW h wr p t G ∧ t.ok ∧ l = X ++ (t.flat h ++ Y) ∧ (∀ e ∈ X, Lo k e) ∧ ∀ e ∈ Y, Hi k e) := ⟨hN, hok, hl, hX, hY⟩
      have HP : Hid (FN wr p iv kv t.its qs (Nd.flat h t).length) := hP
      have Hev : Hid (t.even) := he
      subst e1
      clear hN hok hl hX hY hP hK hFe hsu he hsf HV
      go_wp2_with fail
      refine q.mono ?_
      rintro x w1 ⟨⟨i, th, rfl, hF⟩, t1⟩
      have HT1 : Hid (Tch (fun _ => False) w w1) := HT.out.trans' t1
      obtain ⟨hN, hok, hl, hX, hY⟩ := X1.out
      have hP1 := HP.out.tch t1 (fun _ _ h => h)
      cases th with
      | true =>
        obtain ⟨it, hit, hk⟩ := hF.at_ rfl
        obtain ⟨hi, hit2⟩ := List.getElem?_eq_some_iff.1 hit
        obtain ⟨g, ic, ei, -, -, -, -, j1, -⟩ := it_at hP1.its hi
        rw [hit2] at j1
        have c0 := hP1.nd.cells.1
        rw [ei] at c0
        obtain ⟨n, hn⟩ : ∃ n, n = t.its.length := ⟨_, rfl⟩
        rw [← hn] at c0
        have hiI : (i : Int) < n := by omega
        have Hr : Hid (GetRel k l it.2 true) := by
          refine get_of_mem Hso.out ?_
          rw [hl]
          have h1 : it ∈ t.its := hit2 ▸ List.getElem_mem hi
          have h2 := (its_sublist t Hev.out).subset h1
          have e : (k, it.2) = it := by rw [← hk]
          rw [e]
          simp [h2]
        clear hN hok hl hX hY hP1 hF hit hit2 hi hk ei hn t1 q
        go_wp2_with fail
        go_ret2
        exact ⟨⟨it.2, true, rfl, Hr.out⟩, HT1.out⟩
      | false =>
        obtain ⟨v, hv, qk⟩ := Gt.kid (hN.tch t1 (fun _ _ h => h)) hok hl hX hY Hso.out hF
        have hv1 : ∃ a, v = .pointer a := by
          rcases hv with ⟨_, e, _⟩ | ⟨_, _, p, _, _, _, _, e, _⟩
          · exact ⟨_, e⟩
          · exact ⟨_, e⟩
        obtain ⟨a2, rfl⟩ := hv1
        have Hv : Hid (Gt w1 k l h (.pointer a2)) := hv
        clear hN hok hl hX hY hP1 hF t1 hv q
        go_wp2_with (go_at_call 31; refine qk.mono ?_; rintro x w2 ⟨rfl, hwx⟩; subst hwx; clear qk)
        go_roundg h
        case measure => omega
        case rel => exact ⟨a2, rfl, HT1, Hv⟩
theorem at_beyond (w : World) (b : Nat) (ht : Nat) (F : List Nat) (h : TW w b [] ht F) : Calls Try.prog 15 #[pv b, .int .i64 0] w fun x w' => x = .returned (.tuple #[.string ⟨#[]⟩, ev gv0, .bool false]) ∧ w' = w := by
  have q := len_t w b [] ht F h
  clear h
  go_enter Try.func15, Try.ntmps15
  go_wp2_with (go_at_call 13; refine q.mono ?_; rintro x w1 ⟨rfl, rfl⟩)
  refine bodyPost_ret (results_tmp3 (t := 4) (u := 5) (v := 6) (by kernel_rfl) _ _ _) rfl ?_
  exact ⟨rfl, rfl⟩
end Go.Proofs.Ytnjiiebjdpipjaa
/- pick, numbered of the law; which keys there are. -/
namespace Go.Proofs.Ytnjiiebjdpipjaa
open Go.RowKit Go

/-- The key of a number. -/
def kN (n : Nat) : ByteArray := (⟨#[107]⟩ : ByteArray) ++ (⟨#[UInt8.ofNat (n / 256), UInt8.ofNat (n % 256)]⟩ : ByteArray)
theorem kN_inj {x y : Nat} (hx : x < 2048) (hy : y < 2048) (h : kN x = kN y) : x = y := by
  have h1 := congrArg (fun b : ByteArray => b.data.toList) h
  simp only [kN, ByteArray.data_append, Array.toList_append, List.append_cancel_left_eq] at h1
  simp only [List.cons.injEq, and_true] at h1
  obtain ⟨e1, e2⟩ := h1
  have f1 := congrArg UInt8.toNat e1
  have f2 := congrArg UInt8.toNat e2
  simp only [UInt8.toNat_ofNat'] at f1 f2
  omega
set_option maxHeartbeats 1000000 in
set_option maxRecDepth 100000 in
theorem numbered_any (n : Nat) (w : World) (hn : n < 2048) : Calls Try.prog 10 #[.string ⟨#[107]⟩, .int .i64 n] w fun x w' => x = .returned (.string (kN n)) ∧ Tch (fun _ => False) w w' := by
  have hnI : (n : Int) < 2048 := by omega
  have hcv : (convert 71 9 (.slice (some ⟨w.heap.size, 0, none⟩) 2 2)).run Try.prog (w.alloc (.cells #[.int .u8 ((n : Int) / 256), .int .u8 ((n : Int) % 256)] 5)) = .ok (.string ⟨#[UInt8.ofNat (n / 256), UInt8.ofNat (n % 256)]⟩) (w.alloc (.cells #[.int .u8 ((n : Int) / 256), .int .u8 ((n : Int) % 256)] 5)) := by
    have := run_convert_bytes_back (P := Try.prog) (w.alloc (.cells #[.int .u8 ((n : Int) / 256), .int .u8 ((n : Int) % 256)] 5)) 71 9 5 ⟨w.heap.size, 0, none⟩ 2 [UInt8.ofNat (n / 256), UInt8.ofNat (n % 256)] Try.underlying71 Try.underlying5 Try.underlying9 (fun j hj => by
      rw [add_plain, Nat.zero_add, blk_cell (alloc_new w _)]
      rcases j with _ | _ | j
      · have e : ((UInt8.ofNat (n / 256)).toNat : Int) = (n : Int) / 256 := by rw [UInt8.toNat_ofNat']; omega
        simp only [List.getElem_cons_zero]
        rw [e]; rfl
      · have e : ((UInt8.ofNat (n % 256)).toNat : Int) = (n : Int) % 256 := by rw [UInt8.toNat_ofNat']; omega
        simp only [List.getElem_cons_succ, List.getElem_cons_zero]
        rw [e]; rfl
      · simp at hj; omega)
    simpa using this
  go_enter Try.func10, Try.ntmps10
  go_wp2
  go_ret
  exact ⟨rfl, Tch.alloc _ _ _⟩
/-- Which of n things a number speaks of. -/
def pkN (c : Int) (n : Nat) : Nat := ((if c < 0 then -(c + 1) else c) % (n : Int)).toNat
theorem pkN_lt (c : Int) (n : Nat) (hn : 0 < n) : pkN c n < n := by
  unfold pkN
  have h1 := Int.emod_lt_of_pos (if c < 0 then -(c + 1) else c) (show (0 : Int) < n by omega)
  omega
theorem pick8_any (c : Int) (n : Nat) (w : World) (h1 : -9223372036854775808 ≤ c) (h2 : c ≤ 9223372036854775807) (hn : 0 < n) (hn2 : n ≤ 9223372036854775807) : Calls Try.prog 8 #[.int .i64 c, .int .i64 n] w fun x w' => x = .returned (.int .i64 (pkN c n)) ∧ w' = w := by
  have hn0 : ¬ (n : Int) = 0 := by omega
  have hnb : ((n : Int) == 0) = false := by simp; omega
  by_cases hc : c < 0
  · obtain ⟨d, hd⟩ : ∃ d : Nat, -(c + 1) = d := ⟨(-(c + 1)).toNat, by omega⟩
    obtain ⟨rfl⟩ : c = -(d : Int) - 1 := by omega
    have HE : Hid (((d : Int) % n) = (pkN (-(d : Int) - 1) n : Nat)) := by
      show _ = _
      have e : (if (-(d : Int) - 1) < 0 then -((-(d : Int) - 1) + 1) else (-(d : Int) - 1)) = (d : Int) := by rw [if_pos hc]; omega
      simp only [pkN, e]
      have := Int.emod_nonneg (d : Int) (show (n : Int) ≠ 0 by omega)
      omega
    clear hd
    go_enter Try.func8, Try.ntmps8
    go_wp2
    go_ret
    exact ⟨by rw [← HE.out]; rfl, rfl⟩
  · obtain ⟨d, rfl⟩ : ∃ d : Nat, c = d := ⟨c.toNat, by omega⟩
    have HE : Hid (((d : Int) % n) = (pkN (d : Int) n : Nat)) := by
      show _ = _
      have e : (if (d : Int) < 0 then -((d : Int) + 1) else (d : Int)) = (d : Int) := if_neg (by omega)
      simp only [pkN, e]
      have := Int.emod_nonneg (d : Int) (show (n : Int) ≠ 0 by omega)
      omega
    go_enter Try.func8, Try.ntmps8
    go_wp2
    go_ret
    exact ⟨by rw [← HE.out]; rfl, rfl⟩
/-- What has no part in common with a power of two goes through all. -/
theorem odd_inj {a i j : Nat} (ha : a % 2 = 1) (hi : i < 2048) (hj : j < 2048) (h : i * a % 2048 = j * a % 2048) : i = j := by
  have hc2 : Nat.Coprime 2 a := by
    unfold Nat.Coprime
    rw [Nat.gcd_rec, ha]; decide
  have hc : Nat.Coprime 2048 a := by
    have := Nat.Coprime.pow_left 11 hc2
    simpa using this
  have key : ∀ p q : Nat, q ≤ p → p < 2048 → p * a % 2048 = q * a % 2048 → p = q := fun p q hqp hp e => by
    have h1 : 2048 ∣ a * (p - q) := by
      rw [Nat.mul_sub]
      have e1 : a * p = p * a := Nat.mul_comm _ _
      have e2 : a * q = q * a := Nat.mul_comm _ _
      have hle : q * a ≤ p * a := Nat.mul_le_mul_right _ hqp
      rw [e1, e2]
      exact ⟨(p * a) / 2048 - (q * a) / 2048, by omega⟩
    have h2 := Nat.Coprime.dvd_of_dvd_mul_left hc h1
    obtain ⟨z, hz⟩ := h2
    omega
  rcases Nat.le_total j i with h' | h'
  · exact key i j h' hi h
  · exact (key j i h' hj h.symm).symm
theorem odd_surj {a x : Nat} (ha : a % 2 = 1) (hx : x < 2048) : ∃ i, i < 2048 ∧ i * a % 2048 = x := by
  rcases Classical.em (∃ i, i < 2048 ∧ i * a % 2048 = x) with h | h
  · exact h
  · exfalso
    have hnd : ((List.range 2048).map (fun i => i * a % 2048)).Nodup := by
      refine List.pairwise_map.2 ?_
      refine List.Pairwise.imp_of_mem ?_ (List.nodup_range (n := 2048))
      intro i j hi hj hne e
      exact hne (odd_inj ha (List.mem_range.1 hi) (List.mem_range.1 hj) e)
    have hsub : (List.range 2048).map (fun i => i * a % 2048) ⊆ (List.range 2048).erase x := fun y hy => by
      obtain ⟨i, hi, rfl⟩ := List.mem_map.1 hy
      refine (List.mem_erase_of_ne (fun e => h ⟨i, List.mem_range.1 hi, e⟩)).2 (List.mem_range.2 (Nat.mod_lt _ (by omega)))
    have h1 := hnd.length_le_of_subset hsub
    rw [List.length_map, List.length_range, List.length_erase_of_mem (List.mem_range.2 hx), List.length_range] at h1
    omega
/-- Just these keys are there, each with its number. -/
def EM (l : List It) (n : Nat) (S : Nat → Prop) : Prop := ∀ e, e ∈ l ↔ ∃ x : Nat, x < n ∧ S x ∧ e = (kN x, (x : Int))
theorem EM.put {l l' : List It} {n x : Nat} {S : Nat → Prop} {old : GV} {th : Bool} (h : EM l n S) (hn : n ≤ 2048) (hx : x < n) (hr : PutRel (kN x) (x : Int) l l' old th) : EM l' n (fun y => S y ∨ y = x) := by
  rcases hr with ⟨_, a, b, _, _, rfl, rfl⟩ | ⟨_, _, a, b, _, _, rfl, rfl⟩
  · have h1 : (kN x, old) ∈ a ++ (kN x, old) :: b := by simp
    obtain ⟨y, hy, hS, e⟩ := (h _).1 h1
    injection e with e1 e2
    have hxy := kN_inj (by omega) (by omega) e1
    subst hxy
    subst e2
    intro e
    rw [h e]
    exact ⟨fun ⟨y, h2, h3, h4⟩ => ⟨y, h2, Or.inl h3, h4⟩, fun ⟨y, h2, h3, h4⟩ => ⟨y, h2, h3.elim id (fun e => e ▸ hS), h4⟩⟩
  · intro e
    have h1 := h e
    simp only [List.mem_append, List.mem_cons] at h1 ⊢
    constructor
    · rintro (h2 | h2 | h2)
      · obtain ⟨y, h3, h4, h5⟩ := h1.1 (Or.inl h2); exact ⟨y, h3, Or.inl h4, h5⟩
      · exact ⟨x, hx, Or.inr rfl, h2⟩
      · obtain ⟨y, h3, h4, h5⟩ := h1.1 (Or.inr h2); exact ⟨y, h3, Or.inl h4, h5⟩
    · rintro ⟨y, h3, h4 | h4, h5⟩
      · rcases h1.2 ⟨y, h3, h4, h5⟩ with h6 | h6
        · exact Or.inl h6
        · exact Or.inr (Or.inr h6)
      · exact Or.inr (Or.inl (by rw [h5, h4]))
theorem EM.del {l l' : List It} {n x : Nat} {S : Nat → Prop} {old : GV} {th : Bool} (h : EM l n S) (hn : n ≤ 2048) (hx : x < n) (hS : S x) (hr : RemRel (kN x) l l' old th) : th = true ∧ old = (x : Int) ∧ EM l' n (fun y => S y ∧ y ≠ x) ∧ l.length = l'.length + 1 := by
  have hin : (kN x, (x : Int)) ∈ l := (h _).2 ⟨x, hx, hS, rfl⟩
  rcases hr with ⟨rfl, hi⟩ | ⟨_, _, _, a, b, rfl, ha, hb⟩
  · have hlen := hi.len
    obtain ⟨a, b, ha, hb, rfl, rfl⟩ := hi
    have h1 : (kN x, old) ∈ a ++ (kN x, old) :: b := by simp
    obtain ⟨y, hy, hS', e⟩ := (h _).1 h1
    injection e with e1 e2
    have hxy := kN_inj (by omega) (by omega) e1
    subst hxy
    subst e2
    refine ⟨rfl, rfl, fun e => ?_, hlen⟩
    have h2 := h e
    simp only [List.mem_append, List.mem_cons] at h2 ⊢
    have hself := kc_self (kN x)
    constructor
    · rintro (h3 | h3)
      · obtain ⟨y, h4, h5, h6⟩ := h2.1 (Or.inl h3)
        refine ⟨y, h4, ⟨h5, fun eq => ?_⟩, h6⟩
        have := ha e h3
        unfold Lo at this
        rw [h6, eq] at this
        simp only at this
        omega
      · obtain ⟨y, h4, h5, h6⟩ := h2.1 (Or.inr (Or.inr h3))
        refine ⟨y, h4, ⟨h5, fun eq => ?_⟩, h6⟩
        have := hb e h3
        unfold Hi at this
        rw [h6, eq] at this
        simp only at this
        omega
    · rintro ⟨y, h4, ⟨h5, h7⟩, h6⟩
      rcases h2.2 ⟨y, h4, h5, h6⟩ with h8 | h8 | h8
      · exact Or.inl h8
      · exfalso
        rw [h6] at h8
        injection h8 with h8 _
        exact h7 (kN_inj (by omega) (by omega) h8)
      · exact Or.inr h8
  · exfalso
    have hself := kc_self (kN x)
    rcases List.mem_append.1 hin with h1 | h1
    · have := ha _ h1; unfold Lo at this; simp only at this; omega
    · have := hb _ h1; unfold Hi at this; simp only at this; omega
theorem sorted_nodup {l : List It} (h : Sorted l) : l.Nodup := h.imp (fun {a b} h e => by
  subst e
  have := kc_self a.1
  unfold KL at h
  omega)
theorem EM.len_le {l : List It} {n : Nat} {S : Nat → Prop} (h : EM l n S) (hs : Sorted l) : l.length ≤ n := by
  have h1 := (sorted_nodup hs).length_le_of_subset (l₂ := (List.range n).map (fun x => (kN x, (x : Int)))) (fun e he => by
    obtain ⟨x, hx, _, rfl⟩ := (h e).1 he
    exact List.mem_map.2 ⟨x, List.mem_range.2 hx, rfl⟩)
  simpa using h1
theorem EM.len_all {l : List It} {n : Nat} {S : Nat → Prop} (h : EM l n S) (hs : Sorted l) (hn : n ≤ 2048) (hS : ∀ x, x < n → S x) : l.length = n := by
  have h0 := h.len_le hs
  have hnd : ((List.range n).map (fun x => ((kN x, (x : Int)) : It))).Nodup := by
    refine List.pairwise_map.2 ?_
    refine List.Pairwise.imp_of_mem ?_ (List.nodup_range (n := n))
    intro i j hi hj hne e
    injection e with e1 _
    have := List.mem_range.1 hi
    have := List.mem_range.1 hj
    exact hne (kN_inj (by omega) (by omega) e1)
  have h1 := hnd.length_le_of_subset (l₂ := l) (fun e he => by
    obtain ⟨x, hx, rfl⟩ := List.mem_map.1 he
    have := List.mem_range.1 hx
    exact (h _).2 ⟨x, this, hS x this, rfl⟩)
  rw [List.length_map, List.length_range] at h1
  omega
theorem EM.none {l : List It} {n : Nat} {S : Nat → Prop} (h : EM l n S) (hS : ∀ x, x < n → ¬ S x) : l = [] := by
  cases l with
  | nil => rfl
  | cons e l =>
    obtain ⟨x, hx, hs, _⟩ := (h e).1 (by simp)
    exact absurd hs (hS x hx)
theorem EM.congr {l : List It} {n : Nat} {S T : Nat → Prop} (h : EM l n S) (hT : ∀ x, x < n → (S x ↔ T x)) : EM l n T := fun e => by
  rw [h e]
  exact ⟨fun ⟨x, a, b, c⟩ => ⟨x, a, (hT x a).1 b, c⟩, fun ⟨x, a, b, c⟩ => ⟨x, a, (hT x a).2 b, c⟩⟩
end Go.Proofs.Ytnjiiebjdpipjaa
/- A tree of one's own. -/
namespace Go.Proofs.Ytnjiiebjdpipjaa
open Go.RowKit Go

/-- A tree of one's own: all its blocks are new. -/
def TO (w W : World) (b : Nat) (l : List It) (ht : Nat) : Prop := ∃ F, TW W b l ht F ∧ (∀ x ∈ F, w.heap.size ≤ x) ∧ Tch (fun _ => False) w W
theorem TO.no {w W W' : World} {b : Nat} {l : List It} {ht : Nat} (h : TO w W b l ht) (t : Tch (fun _ => False) W W') : TO w W' b l ht := by
  obtain ⟨F, h1, h2, h3⟩ := h
  exact ⟨F, h1.tch t (fun _ _ h => h), h2, h3.trans' t⟩
theorem TO.step {w W W' : World} {b : Nat} {l' : List It} {ht' : Nat} {F F' : List Nat} (h2 : ∀ x ∈ F, w.heap.size ≤ x) (h3 : Tch (fun _ => False) w W) (h' : TW W' b l' ht' F') (hf : Fits W.heap.size F F') (t : Tch (fun i => i ∈ F) W W') : TO w W' b l' ht' := by
  refine ⟨F', h', fun x hx => ?_, h3.trans t (fun i hi hm => by have := h2 i hm; omega)⟩
  rcases hf.old hx with h6 | h6
  · exact h2 x h6
  · exact Nat.le_trans h3.size h6
theorem TO.sorted {w W : World} {b : Nat} {l : List It} {ht : Nat} (h : TO w W b l ht) : Sorted l := by obtain ⟨F, h1, _, _⟩ := h; exact h1.2.1
theorem new_o (w : World) : Calls Try.prog 7 #[] w fun x w' => ∃ b, x = .returned (pv b) ∧ TO w w' b [] 0 := by
  refine (new_t w).mono ?_
  rintro x w' ⟨rfl, h1, h2⟩
  exact ⟨_, rfl, _, h1, fun x hx => by rw [List.mem_singleton.1 hx]; exact Nat.le_refl _, h2⟩
theorem put_o {w W : World} {b : Nat} {l : List It} {ht : Nat} (h : TO w W b l ht) (hl : l.length < 900000000000000000) (k : ByteArray) (v : GV) : Calls Try.prog 9 #[pv b, .string k, ev v] W fun x w' => ∃ l' ht' old th, x = .returned (.tuple #[ev old, .bool th]) ∧ TO w w' b l' ht' ∧ PutRel k v l l' old th := by
  obtain ⟨F, h1, h2, h3⟩ := h
  refine (put_t W b l ht F k v h1 hl).mono ?_
  rintro x w' ⟨l', ht', F', old, th, rfl, h4, h5, h6, h7⟩
  exact ⟨l', ht', old, th, rfl, TO.step h2 h3 h4 h6 h7, h5⟩
theorem del_o {w W : World} {b : Nat} {l : List It} {ht : Nat} (h : TO w W b l ht) (hl : l.length < 900000000000000000) (k : ByteArray) : Calls Try.prog 14 #[pv b, .string k] W fun x w' => ∃ l' ht' old th, x = .returned (.tuple #[ev old, .bool th]) ∧ TO w w' b l' ht' ∧ RemRel k l l' old th := by
  obtain ⟨F, h1, h2, h3⟩ := h
  refine (del_t W b l ht F k h1 hl).mono ?_
  rintro x w' ⟨l', ht', F', old, th, rfl, h4, h5, h6, h7⟩
  exact ⟨l', ht', old, th, rfl, TO.step h2 h3 h4 h6 h7, h5⟩
theorem get_o {w W : World} {b : Nat} {l : List It} {ht : Nat} (h : TO w W b l ht) (k : ByteArray) : Calls Try.prog 28 #[pv b, .string k] W fun x w' => ∃ v th, x = .returned (.tuple #[ev v, .bool th]) ∧ TO w w' b l ht ∧ GetRel k l v th := by
  obtain ⟨F, h1, h2, h3⟩ := h
  refine (get_t W b l ht F k h1).mono ?_
  rintro x w' ⟨⟨v, th, rfl, h4⟩, h5⟩
  exact ⟨v, th, rfl, ⟨F, h1.tch h5 (fun _ _ h => h), h2, h3.trans' h5⟩, h4⟩
theorem len_o {w W : World} {b : Nat} {l : List It} {ht : Nat} (h : TO w W b l ht) : Calls Try.prog 13 #[pv b] W fun x w' => x = .returned (.int .i64 l.length) ∧ w' = W := by
  obtain ⟨F, h1, h2, h3⟩ := h
  exact len_t W b l ht F h1
theorem TO.floors {w W : World} {b : Nat} {l : List It} {ht : Nat} (h : TO w W b l ht) : (l.length = 0 ∧ ht = 0) ∨ (1 ≤ l.length ∧ 1 ≤ ht ∧ 2 * 8 ^ (ht - 1) ≤ l.length + 1 ∧ l.length + 1 ≤ 16 ^ ht) := by
  obtain ⟨F, h1, h2, h3⟩ := h
  exact h1.floors
/-- There are few floors where there are few items. -/
theorem TO.low {w W : World} {b : Nat} {l : List It} {ht : Nat} (h : TO w W b l ht) (hl : l.length < 1000000) : ht ≤ 8 := by
  rcases h.floors with ⟨_, rfl⟩ | ⟨_, h2, h3, _⟩
  · omega
  · rcases Nat.lt_or_ge 8 ht with h9 | h9
    · exfalso
      have : 8 ^ 8 ≤ 8 ^ (ht - 1) := Nat.pow_le_pow_right (by omega) (by omega)
      have e : 8 ^ 8 = 16777216 := by decide
      omega
    · exact h9
theorem height_o {w W : World} {b : Nat} {l : List It} {ht : Nat} (h : TO w W b l ht) (hl : l.length < 1000000) : Calls Try.prog 12 #[pv b] W fun x w' => x = .returned (.int .i64 ht) ∧ w' = W := by
  have h9 := h.low hl
  obtain ⟨F, h1, h2, h3⟩ := h
  exact height_t W b l ht F h1 (by omega)
end Go.Proofs.Ytnjiiebjdpipjaa
/- known of the law. -/
namespace Go.Proofs.Ytnjiiebjdpipjaa
open Go.RowKit Go

theorem put_first {k : ByteArray} {v old : GV} {l : List It} {th : Bool} (h : PutRel k v [] l old th) : l = [(k, v)] := by
  rcases h with ⟨_, x, y, _, _, e, _⟩ | ⟨_, _, x, y, _, _, e, e2⟩
  · simp at e
  · obtain ⟨rfl, rfl⟩ : x = [] ∧ y = [] := by simpa using e.symm
    exact e2
theorem put_two {k k' : ByteArray} {v v' old : GV} {l : List It} {th : Bool} (h : PutRel k v [(k', v')] l old th) (hk : kc k' k > 0) : l = [(k, v), (k', v')] := by
  rcases h with ⟨_, x, y, hx, hy, e, _⟩ | ⟨_, _, x, y, hx, hy, e, e2⟩
  · exfalso
    have h1 : (k, old) ∈ [(k', v')] := by rw [e]; simp
    have h2 := List.mem_singleton.1 h1
    injection h2 with h2 _
    rw [h2] at hk
    have := kc_self k'
    omega
  · cases x with
    | nil => simp only [List.nil_append] at e e2; rw [e2, ← e]
    | cons a x =>
      exfalso
      simp only [List.cons_append, List.cons.injEq] at e
      have := hx a (by simp)
      rw [← e.1] at this
      unfold Lo at this
      simp only at this
      omega
theorem put_there2 {k k' : ByteArray} {v v' w' old : GV} {l : List It} {th : Bool} (h : PutRel k v [(k', v'), (k, w')] l old th) (hs : Sorted [(k', v'), (k, w')]) : old = w' ∧ th = true ∧ (k, v) ∈ l ∧ l.length = 2 := by
  rcases h with ⟨rfl, hsu⟩ | ⟨_, _, x, y, hx, hy, e, e2⟩
  · have hl := hsu.len
    obtain ⟨x, y, hx, hy, e, e2⟩ := hsu
    have h1 : (k, old) ∈ [(k', v'), (k, w')] := by rw [e]; simp
    exact ⟨sorted_uniq hs h1 (by simp), rfl, by rw [e2]; simp, by simpa using hl⟩
  · exfalso
    have h1 : (k, w') ∈ x ++ y := by rw [← e]; simp
    have := kc_self k
    rcases List.mem_append.1 h1 with h2 | h2
    · have := hx _ h2; unfold Lo at this; simp only at this; omega
    · have := hy _ h2; unfold Hi at this; simp only at this; omega
theorem get_there {k : ByteArray} {v v' : GV} {l : List It} {th : Bool} (h : GetRel k l v th) (hs : Sorted l) (hm : (k, v') ∈ l) : v = v' ∧ th = true := by
  rcases h with ⟨rfl, x, y, e, _⟩ | ⟨_, _, x, y, e, hx, hy⟩
  · exact ⟨sorted_uniq hs (by rw [e]; simp) hm, rfl⟩
  · exfalso
    rw [e] at hm
    have := kc_self k
    rcases List.mem_append.1 hm with h2 | h2
    · have := hx _ h2; unfold Lo at this; simp only at this; omega
    · have := hy _ h2; unfold Hi at this; simp only at this; omega
set_option maxHeartbeats 2000000 in
set_option maxRecDepth 100000 in
theorem known_any (w : World) : Calls Try.prog 6 #[] w fun x w' => x = .returned (.bool true) ∧ Tch (fun _ => False) w w' := by
  have q := new_o w
  go_enter Try.func6, Try.ntmps6
  go_wp2_with fail
  refine q.mono ?_
  rintro x w0 ⟨b, rfl, h0⟩
  clear q
  have q := put_o h0 (by simp) ⟨#[98]⟩ 2
  go_wp2_with fail
  refine q.mono ?_
  rintro x w1 ⟨l1, ht1, old1, th1, rfl, h1, r1⟩
  have e1 := put_first r1
  subst e1
  clear q r1 h0
  have q := put_o h1 (by simp) ⟨#[97]⟩ 1
  go_wp2_with fail
  refine q.mono ?_
  rintro x w2 ⟨l2, ht2, old2, th2, rfl, h2, r2⟩
  have e2 := put_two r2 (by decide)
  subst e2
  clear q r2 h1
  have q := put_o h2 (by simp) ⟨#[98]⟩ 5
  have hs2 := h2.sorted
  go_wp2_with fail
  refine q.mono ?_
  rintro x w3 ⟨l3, ht3, old3, th3, rfl, h3, r3⟩
  obtain ⟨rfl, rfl, hm3, hl3⟩ := put_there2 r3 hs2
  clear q r3 h2 hs2
  have q := get_o h3 ⟨#[98]⟩
  have hs3 := h3.sorted
  have Hm3 : Hid ((⟨#[98]⟩, 5) ∈ l3) := hm3
  have Hl3 : Hid (l3.length = 2) := hl3
  clear hm3 hl3
  go_wp2_with fail
  refine q.mono ?_
  rintro x w4 ⟨v4, th4, rfl, h4, r4⟩
  obtain ⟨rfl, rfl⟩ := get_there r4 hs3 Hm3.out
  have ql := len_o h4
  have qh := height_o h4 (by have := Hl3.out; omega)
  rw [Hl3.out] at ql
  have hh : ht3 = 1 := by
    rcases h4.floors with ⟨e, _⟩ | ⟨_, a2, a3, _⟩
    · have := Hl3.out; omega
    · rcases Nat.lt_or_ge 1 ht3 with h9 | h9
      · exfalso
        have : 8 ^ 1 ≤ 8 ^ (ht3 - 1) := Nat.pow_le_pow_right (by omega) (by omega)
        have := Hl3.out
        omega
      · omega
  subst hh
  have HT : Hid (Tch (fun _ => False) w w4) := by obtain ⟨F, _, _, t⟩ := h4; exact t
  clear q r4 h3 h4 hs3
  go_wp2_with (first
    | (go_at_call 13; refine ql.mono ?_; rintro x w5 ⟨rfl, hw⟩; subst hw; clear ql)
    | (go_at_call 12; refine qh.mono ?_; rintro x w5 ⟨rfl, hw⟩; subst hw; clear qh))
  go_ret
  exact ⟨rfl, HT.out⟩
end Go.Proofs.Ytnjiiebjdpipjaa
