import Derived.Test.YtnjiiebjdpipjaaTMend
/- A step on a kid; on a node's own row. -/
namespace Go.Proofs.Ytnjiiebjdpipjaa
open Go.RowKit Go

/-- The value that a missing key has. -/
abbrev gv0 : GV := 0
theorem mem_fbk {p g : Nat} {iv kv : Value} (h : kv.ownBlock = some g) : g ∈ fb p iv kv := List.mem_cons_of_mem _ (List.mem_append_right _ (mem_bl.2 h))
theorem mem_fbi {p g : Nat} {iv kv : Value} (h : iv.ownBlock = some g) : g ∈ fb p iv kv := List.mem_cons_of_mem _ (List.mem_append_left _ (mem_bl.2 h))
/-- A kid, and what becomes of the whole by a step on it. -/
theorem NWX.kid {h : Nat} {w : World} {p : Nat} {L : List It} {ka kb : List (Nd It h)} {k : Nd It h} {F : List Nat} {s : Int} (hN : NWX h w p L (ka ++ k :: kb) F s) (hn : Nod F) : ∃ q Fk kg kd, w.cell? ⟨p, 1, none⟩ = some (.slice (some ⟨kg, 0, none⟩) (ka ++ k :: kb).length kd) ∧ w.cell? ⟨kg, ka.length, none⟩ = some (pv q) ∧ NW h w q k Fk ∧ Nod Fk ∧ (∀ b ∈ Fk, b ∈ F) ∧ p ∉ Fk ∧ kg ∉ Fk ∧ (∀ g n c, w.cell? ⟨p, 0, none⟩ = some (.slice (some ⟨g, 0, none⟩) n c) → g ∉ Fk) ∧
    ∀ (w' : World) (k' : Nd It h) (Fk' : List Nat), NW h w' q k' Fk' → Fits w.heap.size Fk Fk' → Tch (fun i => i ∈ Fk) w w' → ∃ F', NWX h w' p L (ka ++ k' :: kb) F' s ∧ Fits w.heap.size F F' ∧ Tch (fun i => i ∈ F) w w' := by
  obtain ⟨iv, kv, qs, FF, hP, hK, rfl⟩ := hN
  obtain ⟨k1, k2, q, Fk, rfl, rfl, rfl, rfl, hq, h1, h2⟩ := kids_at hK
  have hlt : (kT k1).length < (kP k1 ++ q :: kP k2).length := by simp only [List.length_append, List.length_cons, kP_len]; omega
  obtain ⟨kg, kd, ek, -, -, -, k0, -⟩ := kid_at hP.kids hlt
  subst ek
  have hq0 : (kP k1 ++ q :: kP k2)[(kT k1).length]'hlt = q := by
    rw [List.getElem_append_right (by rw [kP_len]; exact Nat.le_refl _)]
    simp [kP_len]
  rw [hq0] at k0
  have hF0 : ∀ b, (fb p iv (.slice (some ⟨kg, 0, none⟩) (kP k1 ++ q :: kP k2).length kd) ++ (kF k1 ++ (Fk ++ kF k2))).count b = Fk.count b + (fb p iv (.slice (some ⟨kg, 0, none⟩) (kP k1 ++ q :: kP k2).length kd) ++ (kF k1 ++ kF k2)).count b := fun b => by simp only [List.count_append]; omega
  obtain ⟨hnod, hap⟩ := nodR hn hF0
  have hl : (kT k1 ++ k :: kT k2).length = (kP k1 ++ q :: kP k2).length := by simp only [List.length_append, List.length_cons, kP_len]
  refine ⟨q, Fk, kg, kd, by rw [hl]; exact hP.nd.cells.2.1, k0, hq, hnod, fun b hb => by simp [hb], hap p (by simp [fb]), hap kg (List.mem_append_left _ (mem_fbk (show (Value.slice (some ⟨kg, 0, none⟩) (kP k1 ++ q :: kP k2).length kd).ownBlock = some kg from rfl))), fun g n c hc => hap g (List.mem_append_left _ (mem_fbi (by have e1 := hP.nd.cells.1; rw [hc] at e1; injection e1 with e1; rw [← e1]; rfl))), fun w' k' Fk' hq' hf ht => ?_⟩
  have hR : ∀ b ∈ fb p iv (.slice (some ⟨kg, 0, none⟩) (kP k1 ++ q :: kP k2).length kd) ++ (kF k1 ++ kF k2), b < w.heap.size := fun b hb => by
    simp only [List.mem_append] at hb
    rcases hb with hb | hb | hb
    · exact hP.lt b hb
    · exact kF_lt h1 b hb
    · exact kF_lt h2 b hb
  refine ⟨fb p iv (.slice (some ⟨kg, 0, none⟩) (kP k1 ++ q :: kP k2).length kd) ++ (kF k1 ++ (Fk' ++ kF k2)), ⟨iv, _, _, _, hP.tch ht (fun b hb hb' => hap b (List.mem_append_left _ hb) hb'), ⟨k1 ++ (q, k', Fk') :: k2, by simp [kP], by simp [kT], by simp [kF], fun x hx => ?_⟩, rfl⟩, Fits.frame hf hR hn hF0 (fun b => by simp only [List.count_append]; omega), ht.mono (fun i _ hi => by simp [hi])⟩
  simp only [List.mem_append, List.mem_cons] at hx
  rcases hx with hx | rfl | hx
  · exact kids_tch h1 ht (fun b hb hb' => hap b (List.mem_append_right _ (List.mem_append_left _ hb)) hb') x hx
  · exact hq'
  · exact kids_tch h2 ht (fun b hb hb' => hap b (List.mem_append_right _ (List.mem_append_right _ hb)) hb') x hx
theorem NWX.setSz {h : Nat} {w : World} {p : Nat} {L : List It} {ts : List (Nd It h)} {F : List Nat} {s : Int} (hN : NWX h w p L ts F s) (hn : Nod F) (s' : Int) : NWX h (w.setCell ⟨p, 2, none⟩ (.int .i64 s')) p L ts F s' ∧ Tch (fun i => i ∈ F) w (w.setCell ⟨p, 2, none⟩ (.int .i64 s')) := by
  obtain ⟨iv, kv, qs, FF, hP, ⟨ks, rfl, rfl, rfl, h3⟩, rfl⟩ := hN
  have hs : Nod (fb p iv kv) := fun b => by have := hn b; rw [List.count_append] at this; omega
  have hp := nod_self hs
  have t : Tch (fun i => i = p) w (w.setCell ⟨p, 2, none⟩ (.int .i64 s')) := Tch.setCell _ _ _ _ rfl
  have hap : ∀ b ∈ kF ks, b ≠ p := fun b hb e => by
    have h0 : (fb p iv kv).count b + (kF ks).count b ≤ 1 := by have := hn b; rw [List.count_append] at this; exact this
    have h1 := count_mem hb
    have h2 : 1 ≤ (fb p iv kv).count b := count_mem (by rw [e]; simp [fb])
    omega
  exact ⟨⟨iv, kv, _, _, ⟨hP.nd.setSz, own_tch hP.its t (fun g e e' => hp.1 (by rw [← e']; exact e)), own_tch hP.kids t (fun g e e' => hp.2 (by rw [← e']; exact e))⟩, ⟨ks, rfl, rfl, rfl, kids_tch h3 t hap⟩, rfl⟩, t.mono (fun i _ e => by rw [e]; simp [fb])⟩
theorem NWX.cells {h : Nat} {w : World} {p : Nat} {L : List It} {ts : List (Nd It h)} {F : List Nat} {s : Int} (hN : NWX h w p L ts F s) : w.cell? ⟨p, 2, none⟩ = some (.int .i64 s) ∧ w.frozen? ⟨p, 2, none⟩ = false := by
  obtain ⟨iv, kv, qs, FF, hP, _, rfl⟩ := hN
  exact ⟨hP.nd.cells.2.2.1, hP.nd.cells.2.2.2 2⟩
/-- A node whose row of items was set in its place. -/
theorem NW.items {h : Nat} {w w' : World} {p : Nat} {t t' : Nd It h} {F : List Nat} {iv kv iv' : Value} {qs FF : List Nat} (hn : Nod F) (hK : Kids h w t qs FF) (hF : F = fb p iv kv ++ FF) (h1 : FN w' p iv' kv t'.its qs (Nd.flat h t').length) (hb : iv'.ownBlock = iv.ownBlock) (ht : Tch (fun i => iv.ownBlock = some i) w w') (hk : ∀ w qs FF, Kids h w t qs FF → Kids h w t' qs FF) : NW h w' p t' F ∧ Tch (fun i => i ∈ F) w w' := by
  have hap : ∀ b ∈ FF, ¬ iv.ownBlock = some b := fun b hb e => by
    have := hn b
    rw [hF, List.count_append] at this
    have h1 := count_mem hb
    have h2 : 1 ≤ (fb p iv kv).count b := count_mem (by simp [fb, mem_bl.2 e])
    omega
  refine ⟨NW_iff.2 ⟨iv', kv, qs, FF, h1, (hk _ _ _ hK).tch ht hap, ?_⟩, ht.mono (fun i _ e => by rw [hF]; simp [fb, mem_bl.2 e])⟩
  rw [hF]
  unfold fb
  rw [bl_of hb]
/-- What put does. -/
def PutRel (k : ByteArray) (v : GV) (fl fl' : List It) (old : GV) (th : Bool) : Prop := (th = true ∧ Subst (Lo k) (Hi k) (k, old) (k, v) fl fl') ∨ (th = false ∧ old = gv0 ∧ Ins (Lo k) (Hi k) (k, v) fl fl')
theorem its_sublist {h : Nat} (t : Nd It h) (he : t.even) : t.its.Sublist (t.flat h) := by
  cases h with
  | zero => exact List.Sublist.refl _
  | succ h =>
    have : ∀ (a : List It) (fa : List (List It)), fa.length = a.length + 1 → a.Sublist (mix a fa) := fun a => by
      induction a with
      | nil => intro fa _; exact List.nil_sublist _
      | cons x a ih =>
        intro fa hf
        cases fa with
        | nil => simp at hf
        | cons f fa =>
          show (x :: a).Sublist (f ++ x :: mix a fa)
          exact List.Sublist.trans ((ih fa (by simpa using hf)).cons_cons x) (List.sublist_append_right _ _)
    exact this t.1 _ (by rw [List.length_map]; exact he)
theorem its_sorted {h : Nat} (t : Nd It h) (he : t.even) (hs : Sorted (t.flat h)) : Sorted t.its := hs.sublist (its_sublist t he)
end Go.Proofs.Ytnjiiebjdpipjaa
/- put: where the key is there. -/
namespace Go.Proofs.Ytnjiiebjdpipjaa
open Go.RowKit Go

/-- The key is there: its value is set. -/
theorem put_there {h : Nat} {w w1 : World} {p i : Nat} {k : ByteArray} {v : GV} {t : Nd It h} {F : List Nat} (hN : NW h w p t F) (hn : Nod F) (hs : t.sub) (hl : t.its.length ≤ 15) (hso : Sorted (t.flat h)) (hF : Found t.its k i true) (t1 : Tch (fun _ => False) w w1) :
    ∃ g c old, w1.cell? ⟨p, 0, none⟩ = some (.slice (some ⟨g, 0, none⟩) t.its.length c) ∧ i < t.its.length ∧ w1.cell? ⟨g, i * 2 + 1, none⟩ = some (ev old) ∧ w1.frozen? ⟨g, i * 2 + 1, none⟩ = false ∧
      ∃ (t' : Nd It h), NW h (w1.setCell ⟨g, i * 2 + 1, none⟩ (ev v)) p t' F ∧ Tch (fun i => i ∈ F) w (w1.setCell ⟨g, i * 2 + 1, none⟩ (ev v)) ∧ t'.sub ∧ t'.its.length = t.its.length ∧ PutRel k v (t.flat h) (t'.flat h) old true := by
  have hN1 := hN.tch t1 (fun _ _ h => h)
  obtain ⟨iv, kv, qs, FF, hP, hK, rfl⟩ := NW_iff.1 hN1
  obtain ⟨it, hit, hk⟩ := hF.at_ rfl
  obtain ⟨hi, hit2⟩ := List.getElem?_eq_some_iff.1 hit
  obtain ⟨g, c, ei, -, -, -, j0, j1, jf⟩ := it_at hP.its hi
  subst ei
  rw [hit2] at j1
  have he := sub_even h t hs
  -- the node with the value set
  obtain ⟨t', ht', hfl, hsub', hkk⟩ : ∃ t' : Nd It h, t'.its = t.its.set i (k, v) ∧ PutRel k v (t.flat h) (t'.flat h) it.2 true ∧ t'.sub ∧ ∀ w qs FF, Kids h w t qs FF → Kids h w t' qs FF := by
    have hcut := list_cut t.its i it hit
    have hset : t.its.set i (k, v) = t.its.take i ++ (k, v) :: t.its.drop (i + 1) := by
      rw [List.set_eq_take_append_cons_drop, if_pos hi]
    have hitk : (k, it.2) = it := by rw [← hk]
    cases h with
    | zero =>
      refine ⟨t.its.set i (k, v), rfl, Or.inl ⟨rfl, t.its.take i, t.its.drop (i + 1), hF.lo, hF.behind rfl, ?_, hset⟩, trivial, fun _ _ _ h => h⟩
      rw [hitk]
      exact hcut.symm
    | succ h =>
      have hlen : t.2.length = t.1.length + 1 := he
      have hi' : i < t.1.length := hi
      refine ⟨(t.1.set i (k, v), t.2), rfl, Or.inl ⟨rfl, ?_⟩, ⟨by rw [List.length_set]; exact hlen, hs.2⟩, fun _ _ _ h => h⟩
      have e1 : t = ((t.its.take i ++ it :: t.its.drop (i + 1), t.2.take (i + 1) ++ t.2.drop (i + 1)) : Nd It (h + 1)) := Prod.ext hcut.symm (List.take_append_drop _ _).symm
      have m1 := item_mid h (t.its.take i) (t.its.drop (i + 1)) it (t.2.take (i + 1)) (t.2.drop (i + 1)) (by rw [List.length_take, List.length_take]; show min (i + 1) t.2.length = min i t.1.length + 1; omega)
      have m2 := item_mid h (t.its.take i) (t.its.drop (i + 1)) (k, v) (t.2.take (i + 1)) (t.2.drop (i + 1)) (by rw [List.length_take, List.length_take]; show min (i + 1) t.2.length = min i t.1.length + 1; omega)
      have e2 : Nd.flat (h + 1) t = mix (t.its.take i) ((t.2.take (i + 1)).map (Nd.flat h)) ++ it :: mix (t.its.drop (i + 1)) ((t.2.drop (i + 1)).map (Nd.flat h)) := by rw [← m1, ← e1]
      have e3 : Nd.flat (h + 1) ((t.1.set i (k, v), t.2) : Nd It (h + 1)) = mix (t.its.take i) ((t.2.take (i + 1)).map (Nd.flat h)) ++ (k, v) :: mix (t.its.drop (i + 1)) ((t.2.drop (i + 1)).map (Nd.flat h)) := by
        rw [← m2]
        have : ((t.1.set i (k, v), t.2) : Nd It (h + 1)) = ((t.its.take i ++ (k, v) :: t.its.drop (i + 1), t.2.take (i + 1) ++ t.2.drop (i + 1)) : Nd It (h + 1)) := Prod.ext hset (List.take_append_drop _ _).symm
        rw [this]
      refine ⟨_, _, fun e he' => ?_, fun e he' => ?_, by rw [hitk]; exact e2, e3⟩
      · rw [e2] at hso
        have := (List.pairwise_append.1 hso).2.2 e he' it (by simp)
        unfold KL at this
        rw [hk] at this
        exact this
      · rw [e2] at hso
        have := (List.pairwise_cons.1 (List.pairwise_append.1 hso).2.1).1 e he'
        unfold KL at this
        rw [hk] at this
        have := kc_flip k e.1
        unfold Hi
        omega
  have hlen' : t'.its.length = t.its.length := by rw [ht', List.length_set]
  have hfl' : (Nd.flat h t').length = (Nd.flat h t).length := by
    rcases hfl with ⟨_, hsu⟩ | ⟨e, _⟩
    · exact hsu.len
    · cases e
  have hsetv : t.its.set i (t.its[i].1, v) = t'.its := by rw [ht', hit2, hk]
  have hnf : Nod (fb p (.slice (some ⟨g, 0, none⟩) t.its.length c) kv) := fun b => by have := hn b; rw [List.count_append] at this; omega
  have ts : Tch (fun i => i = g) w1 (w1.setCell ⟨g, i * 2 + 1, none⟩ (ev v)) := Tch.setCell _ _ _ _ rfl
  have hFN : FN (w1.setCell ⟨g, i * 2 + 1, none⟩ (ev v)) p (.slice (some ⟨g, 0, none⟩) t.its.length c) kv t'.its qs (Nd.flat h t').length := by
    have ho := own_setv (x := v) hP.its hi
    rw [hsetv, hlen'] at ho
    refine ⟨?_, by rw [hlen']; exact ho, own_tch hP.kids ts (fun g' e e' => ?_)⟩
    · rw [hfl']
      exact hP.nd.tch ts (fun e => (nod_self hnf).1 (by rw [e]; rfl))
    · subst e'
      have := hnf g'
      rw [fb_count] at this
      have h1 := count_mem (mem_bl.2 e)
      have h2 := count_mem (mem_bl.2 (show (Value.slice (some ⟨g', 0, none⟩) t.its.length c).ownBlock = some g' from rfl))
      omega
  obtain ⟨r1, r2⟩ := NW.items (t' := t') hn hK rfl hFN rfl (ts.mono (fun i _ e => by rw [e]; rfl)) hkk
  exact ⟨g, c, it.2, hP.nd.cells.1, hi, j1, jf _, t', r1, (t1.mono (fun _ _ h => h.elim)).trans' r2, hsub', hlen', hfl⟩
end Go.Proofs.Ytnjiiebjdpipjaa
/- put: a leaf. -/
namespace Go.Proofs.Ytnjiiebjdpipjaa
open Go.RowKit Go

set_option maxHeartbeats 4000000 in
set_option maxRecDepth 100000 in
theorem put_leaf (w : World) (p : Nat) (k : ByteArray) (v : GV) (t : Nd It 0) (F : List Nat) (hN : NW 0 w p t F) (hn : Nod F) (hs : t.sub) (hl : t.its.length ≤ 15) (hso : Sorted (t.flat 0)) (hb : (t.flat 0).length < 1000000000000000000) :
    Calls Try.prog 29 #[pv p, .string k, ev v] w (fun x w' => ∃ (t' : Nd It 0) (F' : List Nat) (old : GV) (th : Bool), x = .returned (.tuple #[ev old, .bool th]) ∧ NW 0 w' p t' F' ∧ Fits w.heap.size F F' ∧ Tch (fun i => i ∈ F) w w' ∧ t'.sub ∧ t.its.length ≤ t'.its.length ∧ t'.its.length ≤ 16 ∧ PutRel k v (t.flat 0) (t'.flat 0) old th) := by
  have HN : Hid (NW 0 w p t F) := hN
  have HNod : Hid (Nod F) := hn
  have Hsub : Hid (Nd.sub 0 t) := hs
  have Hl15 : Hid (t.its.length ≤ 15) := hl
  have Hso : Hid (Sorted (t.flat 0)) := hso
  have Hb : Hid ((t.flat 0).length < 1000000000000000000) := hb
  obtain ⟨iv, kv, qs, FF, hP, hK, hFe⟩ := NW_iff.1 hN
  have he := sub_even 0 t hs
  have q := find_any p t.its k iv kv _ w hP.nd hP.its (its_sorted t he hso) (by omega)
  have HP : Hid (FN w p iv kv t.its qs (Nd.flat 0 t).length) := hP
  have hq0 : qs = [] := hK.1
  subst hq0
  have hF0 : FF = [] := hK.2
  subst hF0
  have HFe : Hid (F = fb p iv kv ++ []) := hFe
  clear hP hK hFe
  clear hN hn hs hl hso hb he
  go_enter Try.func29, Try.ntmps29
  go_wp2_with fail
  refine q.mono ?_
  rintro x w1 ⟨⟨i, th, rfl, hF⟩, t1⟩
  clear q
  cases th with
  | true =>
    obtain ⟨g, c, old, c0, hi, c1, f1, t', r1, r2, r3, r4, r5⟩ := put_there (v := v) HN.out HNod.out Hsub.out Hl15.out Hso.out hF t1
    have hiI : (i : Int) < t.its.length := by omega
    obtain ⟨n, hn⟩ : ∃ n, n = t.its.length := ⟨_, rfl⟩
    rw [← hn] at c0 hiI
    obtain ⟨w2, hw2⟩ : ∃ w2, w2 = w1.setCell ⟨g, i * 2 + 1, none⟩ (ev v) := ⟨_, rfl⟩
    rw [← hw2] at r1 r2
    have Hr : Hid (NW 0 w2 p t' F ∧ Tch (fun i => i ∈ F) w w2 ∧ t'.sub ∧ t'.its.length = t.its.length ∧ PutRel k v (t.flat 0) (t'.flat 0) old true) := ⟨r1, r2, r3, r4, r5⟩
    have Hw2 : Hid _ := hw2
    clear r1 r2 r3 r4 r5 hF t1 hn hi hw2
    go_wp2_with fail
    go_region
    have hw := Hw2.out
    rw [← hw]
    clear hw c0 c1 f1
    go_wp2_with fail
    go_ret2
    obtain ⟨r1, r2, r3, r4, r5⟩ := Hr.out
    exact ⟨t', F, old, true, rfl, r1.tch (show Tch (fun _ => False) w2 w2.drew from (Tch.refl _ _).drew) (fun _ _ h => h), Fits.refl HNod.out, r2.drew, r3, by omega, by have := Hl15.out; omega, r5⟩
  | false =>
    have hP1 := HP.out.tch t1 (fun _ _ h => h)
    have q := leaf_any p iv kv t.its [] _ w1 hP1
    obtain ⟨io, ic, rfl⟩ := row_slice hP1.its
    have hnf : Nod (fb p (.slice io t.its.length ic) kv) := fun b => by have := HNod.out b; rw [HFe.out, List.append_nil] at this; exact this
    obtain ⟨w2, hw2⟩ : ∃ w2, w2 = w1.alloc (.cells #[.string k, ev v] 74) := ⟨_, rfl⟩
    have t2 : Tch (fun _ => False) w1 w2 := by rw [hw2]; exact Tch.alloc _ _ _
    have hle := hF.le
    have qi := Iinsert_any (.slice io t.its.length ic) t.its.length i w1.heap.size (icl t.its) [.string k, ev v] w2 (own_tch hP1.its t2 (fun _ _ h => h)) (by rw [hw2]; exact alloc_new _ _) rfl (fun e => by have := (hP1.its.lt _ e).2; omega) hle (by have := Hl15.out; omega) (icl_one _) (by simp [Value.oneCell'])
    have c0 := hP1.nd.cells.1
    have HP1 : Hid (FN w1 p (.slice io t.its.length ic) kv t.its [] (Nd.flat 0 t).length) := hP1
    obtain ⟨n, hn⟩ : ∃ n, n = t.its.length := ⟨_, rfl⟩
    rw [← hn] at c0 qi
    have Hn : Hid (n = t.its.length) := hn
    have Hw2 : Hid _ := hw2
    have T12 : Hid (Tch (fun _ => False) w1 w2) := t2
    have T01 : Hid (Tch (fun _ => False) w w1) := t1
    have HF : Hid (Found t.its k i false) := hF
    clear hP1 hn hw2 t2 t1 hF hle
    go_wp2_with fail
    refine q.mono ?_
    rintro x w1' ⟨rfl, hw1⟩
    subst hw1
    clear q
    go_wp2_with fail
    have hw := Hw2.out
    rw [← hw]
    clear hw c0
    refine qi.mono ?_
    rintro x w3 ⟨⟨v3, rfl, own3, hb3⟩, t3⟩
    have e3 : (icl t.its).take (i * 2) ++ [.string k, ev v] ++ (icl t.its).drop (i * 2) = icl (t.its.take i ++ (k, v) :: t.its.drop i) := by
      rw [icl_take, icl_drop, icl_app, icl_cons, List.append_assoc]
    rw [e3] at own3
    obtain ⟨l', hl'⟩ : ∃ l', l' = t.its.take i ++ (k, v) :: t.its.drop i := ⟨_, rfl⟩
    have hll : l'.length = n + 1 := by have := HF.out.le; rw [hl', Hn.out]; simp only [List.length_append, List.length_take, List.length_cons, List.length_drop]; omega
    have R3 : RI (.slice io n ic) v3 l' w1' w3 := RS.pre ⟨by rw [hll, hl']; exact own3, hb3, t3⟩ T12.out
    obtain ⟨o3, c3, rfl⟩ := row_slice own3
    have hPn := HP1.out
    rw [← Hn.out] at hPn hnf
    obtain ⟨s1, s2, s3⟩ := hPn.stepI R3 hnf
    have n0 := (nod_self hnf).1
    have f0 := (hPn.nd.tch R3.tch n0).cells
    obtain ⟨f1, -, f2, f3⟩ := f0
    have f30 := f3 0
    have f32 := f3 2
    have hT : Hid (Tch (fun i => i ∈ F) w (w3.setCell ⟨p, 0, none⟩ (.slice o3 (n + 1) c3))) := (T01.out.mono (fun _ _ h => h.elim)).trans' (s2.mono (fun i _ hi => by rw [HFe.out, Hn.out.symm, List.append_nil]; exact hi))
    have hszn : (Nd.flat 0 t).length = n := by rw [Hn.out]; rfl
    rw [hszn] at f2 s1
    have S1 : Hid (FN (w3.setCell ⟨p, 0, none⟩ (.slice o3 (n + 1) c3)) p (.slice o3 (n + 1) c3) kv l' [] n) := s1
    have S3' : Hid (Fits w1'.heap.size (fb p (.slice io n ic) kv) (fb p (.slice o3 (n + 1) c3) kv)) := s3
    have hn16 : (n : Int) < 100 := by have := Hl15.out; have := Hn.out; omega
    have Hl' : Hid (l' = t.its.take i ++ (k, v) :: t.its.drop i) := hl'
    clear own3 hb3 t3 e3 hl' R3 hPn s1 s2 s3 f3 n0 hszn qi hnf
    go_wp2_with fail
    go_ret2
    have hx := ND.setSz (s' := (n : Int) + 1) S1.out.nd
    have ts : Tch (fun i => i = p) (w3.setCell ⟨p, 0, none⟩ (.slice o3 (n + 1) c3)) ((w3.setCell ⟨p, 0, none⟩ (.slice o3 (n + 1) c3)).setCell ⟨p, 2, none⟩ (.int .i64 (n + 1))) := Tch.setCell _ _ _ _ rfl
    have hnf : Nod (fb p (.slice io n ic) kv) := fun b => by have := HNod.out b; rw [HFe.out, List.append_nil, ← Hn.out] at this; exact this
    have hself := nod_self (S3'.out.nod hnf)
    have hfn : FN ((w3.setCell ⟨p, 0, none⟩ (.slice o3 (n + 1) c3)).setCell ⟨p, 2, none⟩ (.int .i64 (n + 1))) p (.slice o3 (n + 1) c3) kv l' [] ((l'.length : Nat) : Int) := ⟨by rw [hll]; exact hx, own_tch S1.out.its ts (fun g e e' => hself.1 (by rw [← e']; exact e)), own_tch S1.out.kids ts (fun g e e' => hself.2 (by rw [← e']; exact e))⟩
    have hFF : F = fb p (.slice io n ic) kv := by rw [HFe.out, List.append_nil, Hn.out]
    refine ⟨(l' : Nd It 0), fb p (.slice o3 (n + 1) c3) kv ++ [], gv0, false, rfl, ⟨_, _, hfn, rfl⟩, ?_, hT.out.trans ts (fun i hi e => ?_), trivial, ?_, ?_, Or.inr ⟨rfl, rfl, t.its.take i, t.its.drop i, HF.out.lo, HF.out.hi rfl, ?_, ?_⟩⟩
    · rw [hFF, List.append_nil]
      exact fun b => by
        have := S3'.out b
        have h4 := T01.out.size
        exact ⟨fun hb => this.1 (by omega), fun hb => S3'.out.nod hnf b⟩
    · rw [hFF, e]; simp [fb]
    · show t.its.length ≤ l'.length; have := Hn.out; omega
    · show l'.length ≤ 16; have := Hn.out; have := Hl15.out; omega
    · exact (List.take_append_drop i t.its).symm
    · exact Hl'.out
end Go.Proofs.Ytnjiiebjdpipjaa
/- put: a node with kids. -/
namespace Go.Proofs.Ytnjiiebjdpipjaa
open Go.RowKit Go

/-- A put within a kid, in the whole. -/
theorem PutRel.kid {h : Nat} {A B : List It} {ka kb : List (Nd It h)} {kk k' : Nd It h} {k : ByteArray} {v old : GV} {th : Bool} (hr : PutRel k v (kk.flat h) (k'.flat h) old th) (hka : ka.length = A.length) (hA : ∀ e ∈ A, Lo k e) (hB : ∀ e ∈ B, Hi k e) (hp : Sorted (Nd.flat (h + 1) ((A ++ B, ka ++ kk :: kb) : Nd It (h + 1)))) : PutRel k v (Nd.flat (h + 1) ((A ++ B, ka ++ kk :: kb) : Nd It (h + 1))) (Nd.flat (h + 1) ((A ++ B, ka ++ k' :: kb) : Nd It (h + 1))) old th := by
  obtain ⟨h1, -, h3⟩ := kid_ins KL (Lo k) (Hi k) (fun e e' => Lo.of) (fun e e' => Hi.of) h A B ka kb kk k' hka hA hB hp
  rcases hr with ⟨e, hr⟩ | ⟨e, e2, hr⟩
  · exact Or.inl ⟨e, h3 _ _ hr⟩
  · exact Or.inr ⟨e, e2, h1 _ hr⟩
theorem kid_sorted {h : Nat} {A B : List It} {ka kb : List (Nd It h)} {kk : Nd It h} (hka : ka.length = A.length) (hp : Sorted (Nd.flat (h + 1) ((A ++ B, ka ++ kk :: kb) : Nd It (h + 1)))) : Sorted (kk.flat h) := by
  rw [kid_mid h A B ka kb kk hka] at hp
  exact (List.pairwise_append.1 (List.pairwise_append.1 hp).2.1).1
theorem kid_size {h : Nat} (A B : List It) (ka kb : List (Nd It h)) (kk : Nd It h) (hka : ka.length = A.length) : (kk.flat h).length ≤ (Nd.flat (h + 1) ((A ++ B, ka ++ kk :: kb) : Nd It (h + 1))).length := by
  rw [kid_mid h A B ka kb kk hka]
  simp only [List.length_append]
  omega
theorem node_at {h : Nat} (t : Nd It (h + 1)) (i : Nat) (hi : i ≤ t.1.length) (he : t.2.length = t.1.length + 1) : ∃ (ka kb : List (Nd It h)) (kk : Nd It h), t = ((t.1.take i ++ t.1.drop i, ka ++ kk :: kb) : Nd It (h + 1)) ∧ ka.length = i ∧ kb.length = t.1.length - i ∧ (∀ x ∈ ka, x ∈ t.2) ∧ (∀ x ∈ kb, x ∈ t.2) ∧ kk ∈ t.2 := by
  have hlt : i < t.2.length := by omega
  refine ⟨t.2.take i, t.2.drop (i + 1), t.2[i], Prod.ext (List.take_append_drop i t.1).symm ?_, by rw [List.length_take]; omega, by rw [List.length_drop]; omega, fun x hx => List.mem_of_mem_take hx, fun x hx => List.mem_of_mem_drop hx, List.getElem_mem hlt⟩
  show t.2 = t.2.take i ++ t.2[i] :: t.2.drop (i + 1)
  rw [← List.drop_eq_getElem_cons hlt, List.take_append_drop]
set_option maxHeartbeats 4000000 in
set_option maxRecDepth 100000 in
theorem put_inner (h : Nat) (w : World) (p : Nat) (k : ByteArray) (v : GV) (t : Nd It (h + 1)) (F : List Nat) (hN : NW (h + 1) w p t F) (hn : Nod F) (hs : t.sub) (hl : t.its.length ≤ 15) (hso : Sorted (t.flat (h + 1))) (hb : (t.flat (h + 1)).length < 1000000000000000000)
    (IH : ∀ (w : World) (p : Nat) (t : Nd It h) (F : List Nat), NW h w p t F → Nod F → t.sub → t.its.length ≤ 15 → Sorted (t.flat h) → (t.flat h).length < 1000000000000000000 → Calls Try.prog 29 #[pv p, .string k, ev v] w (fun x w' => ∃ (t' : Nd It h) (F' : List Nat) (old : GV) (th : Bool), x = .returned (.tuple #[ev old, .bool th]) ∧ NW h w' p t' F' ∧ Fits w.heap.size F F' ∧ Tch (fun i => i ∈ F) w w' ∧ t'.sub ∧ t.its.length ≤ t'.its.length ∧ t'.its.length ≤ 16 ∧ PutRel k v (t.flat h) (t'.flat h) old th)) :
    Calls Try.prog 29 #[pv p, .string k, ev v] w (fun x w' => ∃ (t' : Nd It (h + 1)) (F' : List Nat) (old : GV) (th : Bool), x = .returned (.tuple #[ev old, .bool th]) ∧ NW (h + 1) w' p t' F' ∧ Fits w.heap.size F F' ∧ Tch (fun i => i ∈ F) w w' ∧ t'.sub ∧ t.its.length ≤ t'.its.length ∧ t'.its.length ≤ 16 ∧ PutRel k v (t.flat (h + 1)) (t'.flat (h + 1)) old th) := by
  have HN : Hid (NW (h + 1) w p t F) := hN
  have HNod : Hid (Nod F) := hn
  have Hsub : Hid (Nd.sub (h + 1) t) := hs
  have Hl15 : Hid (t.its.length ≤ 15) := hl
  have Hso : Hid (Sorted (t.flat (h + 1))) := hso
  have Hb : Hid ((t.flat (h + 1)).length < 1000000000000000000) := hb
  obtain ⟨iv, kv, qs, FF, hP, hK, hFe⟩ := NW_iff.1 hN
  have he := sub_even (h + 1) t hs
  have q := find_any p t.its k iv kv _ w hP.nd hP.its (its_sorted t he hso) (by omega)
  have HP : Hid (FN w p iv kv t.its qs (Nd.flat (h + 1) t).length) := hP
  have hqs : qs.isEmpty = false := by
    obtain ⟨ks, e1, e2, _, _⟩ := hK
    have h9 : t.2.length = t.1.length + 1 := he
    rw [e2, List.length_map] at h9
    rw [e1]
    cases ks with
    | nil => simp at h9
    | cons x ks => rfl
  obtain ⟨s, hsz⟩ : ∃ s : Int, s = ((Nd.flat (h + 1) t).length : Int) := ⟨_, rfl⟩
  have Hs : Hid (s = ((Nd.flat (h + 1) t).length : Int)) := hsz
  have HIH : Hid _ := IH
  clear hP hK hFe hsz IH
  clear hN hn hs hl hso hb he
  go_enter Try.func29, Try.ntmps29
  go_wp2_with fail
  refine q.mono ?_
  rintro x w1 ⟨⟨i, th, rfl, hF⟩, t1⟩
  clear q
  cases th with
  | true =>
    obtain ⟨g, c, old, c0, hi, c1, f1, t', r1, r2, r3, r4, r5⟩ := put_there (v := v) HN.out HNod.out Hsub.out Hl15.out Hso.out hF t1
    have hiI : (i : Int) < t.its.length := by omega
    obtain ⟨n, hn⟩ : ∃ n, n = t.its.length := ⟨_, rfl⟩
    rw [← hn] at c0 hiI
    obtain ⟨w2, hw2⟩ : ∃ w2, w2 = w1.setCell ⟨g, i * 2 + 1, none⟩ (ev v) := ⟨_, rfl⟩
    rw [← hw2] at r1 r2
    have Hr : Hid (NW (h + 1) w2 p t' F ∧ Tch (fun i => i ∈ F) w w2 ∧ t'.sub ∧ t'.its.length = t.its.length ∧ PutRel k v (t.flat (h + 1)) (t'.flat (h + 1)) old true) := ⟨r1, r2, r3, r4, r5⟩
    have Hw2 : Hid _ := hw2
    clear r1 r2 r3 r4 r5 hF t1 hn hi hw2
    go_wp2_with fail
    go_region
    have hw := Hw2.out
    rw [← hw]
    clear hw c0 c1 f1
    go_wp2_with fail
    go_ret2
    obtain ⟨r1, r2, r3, r4, r5⟩ := Hr.out
    exact ⟨t', F, old, true, rfl, r1.tch (show Tch (fun _ => False) w2 w2.drew from (Tch.refl _ _).drew) (fun _ _ h => h), Fits.refl HNod.out, r2.drew, r3, by omega, by have := Hl15.out; omega, r5⟩
  | false =>
    have hP1 := HP.out.tch t1 (fun _ _ h => h)
    have q := leaf_any p iv kv t.its qs _ w1 hP1
    rw [hqs] at q
    obtain ⟨ka, kb, kk, et, hka, hkb, hma, hmb, hmk⟩ := node_at t i hF.le Hsub.out.1
    have hok := Hsub.out.2
    obtain ⟨A, hA⟩ : ∃ A, A = t.1.take i := ⟨_, rfl⟩
    obtain ⟨B, hB⟩ : ∃ B, B = t.1.drop i := ⟨_, rfl⟩
    rw [← hA, ← hB] at et
    have hAl : A.length = i := by rw [hA, List.length_take]; have := hF.le; show min i t.1.length = i; have : i ≤ t.1.length := hF.le; omega
    have hBl : B.length = t.1.length - i := by rw [hB, List.length_drop]
    have hAlo : ∀ e ∈ A, Lo k e := fun e he => hF.lo e (by rw [hA] at he; exact he)
    have hBhi : ∀ e ∈ B, Hi k e := fun e he => hF.hi rfl e (by rw [hB] at he; exact he)
    have hN1 : NWX h w1 p (A ++ B) (ka ++ kk :: kb) F s := by
      have h0 : NW (h + 1) w1 p t F := HN.out.tch t1 (fun _ _ h => h)
      rw [Hs.out]
      rw [et] at h0 ⊢
      exact NW_X.1 h0
    obtain ⟨qk, Fk, kg, kd, d1, k0, hq, hnk, -, -, -, -, hstep⟩ := hN1.kid HNod.out
    have hkk := hok kk hmk
    have hkks := (ok_iff h kk).1 hkk.1
    have hso2 := Hso.out
    have hb2 := Hb.out
    rw [et] at hso2 hb2
    have qp := HIH.out w1 qk kk Fk hq hnk hkks.2 hkks.1 (kid_sorted (hka.trans hAl.symm) hso2) (Nat.lt_of_le_of_lt (kid_size A B ka kb kk (hka.trans hAl.symm)) hb2)
    have hmp : (ka ++ kk :: kb).length = t.1.length + 1 := by simp only [List.length_append, List.length_cons]; have : i ≤ t.1.length := hF.le; omega
    have hl15 : t.1.length ≤ 15 := Hl15.out
    have hile : i ≤ t.1.length := hF.le
    obtain ⟨n, hn⟩ : ∃ n, n = t.1.length := ⟨_, rfl⟩
    rw [hmp, ← hn] at d1
    rw [hka] at k0
    rw [← hn] at hl15 hile hBl hkb
    have hiI : (i : Int) < (n : Int) + 1 := by omega
    have Het : Hid (t = ((A ++ B, ka ++ kk :: kb) : Nd It (h + 1))) := et
    have Hn : Hid (n = t.1.length) := hn
    have Hlo : Hid (∀ e ∈ A, Lo k e) := hAlo
    have Hhi : Hid (∀ e ∈ B, Hi k e) := hBhi
    have Hka : Hid (∀ x ∈ ka, x.ok ∧ 7 ≤ x.its.length) := fun x hx => hok x (hma x hx)
    have Hkb : Hid (∀ x ∈ kb, x.ok ∧ 7 ≤ x.its.length) := fun x hx => hok x (hmb x hx)
    have Hkk : Hid (7 ≤ kk.its.length) := hkk.2
    have Hstep : Hid (∀ (w' : World) (k' : Nd It h) (Fk' : List Nat), NW h w' qk k' Fk' → Fits w1.heap.size Fk Fk' → Tch (fun i => i ∈ Fk) w1 w' → ∃ F', NWX h w' p (A ++ B) (ka ++ k' :: kb) F' s ∧ Fits w1.heap.size F F' ∧ Tch (fun i => i ∈ F) w1 w') := hstep
    have T01 : Hid (Tch (fun _ => False) w w1) := t1
    have Hso2 : Hid (Sorted (Nd.flat (h + 1) ((A ++ B, ka ++ kk :: kb) : Nd It (h + 1)))) := hso2
    clear hN1 hstep hq hnk hok hkk hkks hso2 hb2 et hA hB hAlo hBhi hF t1 hn hmp hmk hma hmb hP1 HIH
    go_wp2_with fail
    refine q.mono ?_
    rintro x w1' ⟨rfl, hw1⟩
    subst hw1
    clear q
    go_wp2_with fail
    clear d1 k0
    refine qp.mono ?_
    rintro x w2 ⟨k', Fk', old', th', rfl, nk', fk', tk', sk', lk', lk'', pr'⟩
    obtain ⟨F2, N2, fi2, tc2⟩ := Hstep.out w2 k' Fk' nk' fk' tk'
    obtain ⟨kg2, kd2, po2, pc2, d1, -, hlook⟩ := N2.look (by simp only [List.length_append, List.length_cons]; omega)
    obtain ⟨q2, qo2, qc2, k0, e0⟩ := hlook i k' (by rw [List.getElem?_append_right (by omega), hka, Nat.sub_self]; rfl)
    have hmp2 : (ka ++ k' :: kb).length = n + 1 := by simp only [List.length_append, List.length_cons]; omega
    rw [hmp2] at d1
    have Hpr : Hid (PutRel k v (Nd.flat (h + 1) t) (Nd.flat (h + 1) ((A ++ B, ka ++ k' :: kb) : Nd It (h + 1))) old' th') := by
      have := PutRel.kid pr' (hka.trans hAl.symm) Hlo.out Hhi.out Hso2.out
      rw [← Het.out] at this
      exact this
    have N2' : Hid (NWX h w2 p (A ++ B) (ka ++ k' :: kb) F2 s) := N2
    have X2 : Hid (Fits w.heap.size F F2 ∧ Tch (fun i => i ∈ F) w w2) := ⟨fun b => by
      have := fi2 b
      have h4 := T01.out.size
      exact ⟨fun hb => this.1 (by omega), fun hb => fi2.nod HNod.out b⟩, (T01.out.mono (fun _ _ h => h.elim)).trans' tc2⟩
    have Sk : Hid (k'.sub ∧ kk.its.length ≤ k'.its.length) := ⟨sk', lk'⟩
    obtain ⟨nk, hnk⟩ : ∃ nk, nk = k'.its.length := ⟨_, rfl⟩
    rw [← hnk] at e0
    have Hnk : Hid (nk = k'.its.length) := hnk
    have hnk16 : nk ≤ 16 := by omega
    clear N2 fi2 tc2 nk' fk' tk' pr' hlook hmp2 qp hnk lk' lk'' sk' Hstep
    rcases Nat.lt_or_ge 15 nk with h16 | h16
    · have h16i : (15 : Int) < nk := by omega
      have hk16 : k'.its.length = 16 := by have := Hnk.out; omega
      obtain ⟨m, hm⟩ : ∃ m, k'.its[7]? = some m := ⟨k'.its[7]'(by omega), List.getElem?_eq_getElem (by omega)⟩
      have hke := sub_even h k' Sk.out.1
      have hlen2 : (Nd.flat (h + 1) ((A ++ B, ka ++ k' :: kb) : Nd It (h + 1))).length ≤ (Nd.flat (h + 1) t).length + 1 := by
        rcases Hpr.out with ⟨_, hi⟩ | ⟨_, _, hi⟩
        · have := hi.len; omega
        · have := hi.len; omega
      have qs := split_x h w2 p s A B ka kb k' m F2 N2'.out (X2.out.1.nod HNod.out) (hka.trans hAl.symm) (by omega) (by omega) hk16 hke hm (Nat.le_trans (kid_size A B ka kb k' (hka.trans hAl.symm)) (by have := Hb.out; omega))
      rw [hAl] at qs
      go_wp2_with fail
      clear d1 k0 e0
      refine qs.mono ?_
      rintro x w3 ⟨rfl, F3, N3, fi3, tc3⟩
      obtain ⟨L3, hL3⟩ : ∃ L3, L3 = A ++ m :: B := ⟨_, rfl⟩
      obtain ⟨ts3, hts3⟩ : ∃ ts3, ts3 = ka ++ Nd.lo h 7 k' :: Nd.hi h 7 k' :: kb := ⟨_, rfl⟩
      have hfl : Nd.flat (h + 1) ((L3, ts3) : Nd It (h + 1)) = Nd.flat (h + 1) ((A ++ B, ka ++ k' :: kb) : Nd It (h + 1)) := by
        rw [hL3, hts3, glue_in h A B ka kb _ m _ (hka.trans hAl.symm) (lo_even h 7 k' hke (by omega)), glue_cut h 7 k' m hm]
      have hck := cut_ok h k' Sk.out.1 hk16
      have hsub3 : Nd.sub (h + 1) ((L3, ts3) : Nd It (h + 1)) := by
        rw [hL3, hts3]
        exact cut1 (hka.trans hAl.symm) (by omega) Hka.out Hkb.out ⟨hck.1, by omega⟩ ⟨hck.2.2.1, by omega⟩
      have hn3 : L3.length = n + 1 := by rw [hL3]; simp only [List.length_append, List.length_cons]; omega
      rw [← hL3, ← hts3] at N3
      replace N3 : Hid (NWX h w3 p L3 ts3 F3 s) := N3
      have X3 : Hid (Fits w.heap.size F F3 ∧ Tch (fun i => i ∈ F) w w3 ∧ Nd.sub (h + 1) ((L3, ts3) : Nd It (h + 1)) ∧ t.its.length ≤ L3.length ∧ L3.length ≤ 16 ∧ PutRel k v (Nd.flat (h + 1) t) (Nd.flat (h + 1) ((L3, ts3) : Nd It (h + 1))) old' th') := ⟨X2.out.1.trans fi3 X2.out.2.size, X2.out.2.trans tc3 (fun i hi hm => by
        rcases X2.out.1.old hm with h6 | h6
        · exact h6
        · omega), hsub3, by show t.1.length ≤ L3.length; have := Hn.out; omega, by show L3.length ≤ 16; omega, by rw [hfl]; exact Hpr.out⟩
      clear qs fi3 tc3 hL3 hts3 hfl hck hsub3 hn3 hlen2
      cases th' with
      | true =>
        go_wp2_with fail
        go_ret2
        refine ⟨((L3, ts3) : Nd It (h + 1)), F3, old', true, rfl, ?_, X3.out.1, X3.out.2.1, X3.out.2.2.1, X3.out.2.2.2.1, X3.out.2.2.2.2.1, X3.out.2.2.2.2.2⟩
        rw [NW_X]
        have e : ((Nd.flat (h + 1) ((L3, ts3) : Nd It (h + 1))).length : Int) = s := by
          rcases X3.out.2.2.2.2.2 with ⟨_, hi⟩ | ⟨e, _⟩
          · have := hi.len; have := Hs.out; omega
          · cases e
        rw [e]
        exact N3.out
      | false =>
        obtain ⟨c2, f2⟩ := N3.out.cells
        have hsw : IntKind.i64.wrap (s + 1) = s + 1 := by rw [IntKind.wrap_i64]; have := Hs.out; have := Hb.out; omega
        have hsb : s < 1000000000000000000 := by have := Hs.out; have := Hb.out; omega
        have hsb0 : 0 ≤ s := by have := Hs.out; omega
        go_wp2_with fail
        go_ret2
        obtain ⟨m1, m2⟩ := N3.out.setSz (X3.out.1.nod HNod.out) (s + 1)
        refine ⟨((L3, ts3) : Nd It (h + 1)), F3, old', false, rfl, ?_, X3.out.1, X3.out.2.1.trans m2 (fun i hi hm => ?_), X3.out.2.2.1, X3.out.2.2.2.1, X3.out.2.2.2.2.1, X3.out.2.2.2.2.2⟩
        · rw [NW_X]
          have e : ((Nd.flat (h + 1) ((L3, ts3) : Nd It (h + 1))).length : Int) = s + 1 := by
            rcases X3.out.2.2.2.2.2 with ⟨e, _⟩ | ⟨_, _, hi⟩
            · cases e
            · have := hi.len; have := Hs.out; omega
          rw [e]
          exact m1
        · rcases X3.out.1.old hm with h6 | h6
          · exact h6
          · omega
    · have h16i : ¬ (15 : Int) < nk := by omega
      obtain ⟨w3, hw3⟩ : ∃ w3, w3 = w2 := ⟨_, rfl⟩
      obtain ⟨L3, hL3⟩ : ∃ L3, L3 = A ++ B := ⟨_, rfl⟩
      obtain ⟨ts3, hts3⟩ : ∃ ts3, ts3 = ka ++ k' :: kb := ⟨_, rfl⟩
      have hsub3 : Nd.sub (h + 1) ((A ++ B, ka ++ k' :: kb) : Nd It (h + 1)) := cut0 (hka.trans hAl.symm) (by omega) Hka.out Hkb.out ⟨(ok_iff h k').2 ⟨by have := Hnk.out; omega, Sk.out.1⟩, by have := Hkk.out; have := Sk.out.2; omega⟩
      have hn3 : (A ++ B).length = n := by simp only [List.length_append]; omega
      rw [← hL3, ← hts3] at hsub3
      rw [← hL3] at hn3
      have N3 := N2'.out
      have P3 := Hpr.out
      rw [← hL3, ← hts3] at N3 P3
      replace N3 : Hid (NWX h w2 p L3 ts3 F2 s) := N3
      obtain ⟨F3, hF3⟩ : ∃ F3, F3 = F2 := ⟨_, rfl⟩
      rw [← hF3] at N3
      have X3 : Hid (Fits w.heap.size F F3 ∧ Tch (fun i => i ∈ F) w w2 ∧ Nd.sub (h + 1) ((L3, ts3) : Nd It (h + 1)) ∧ t.its.length ≤ L3.length ∧ L3.length ≤ 16 ∧ PutRel k v (Nd.flat (h + 1) t) (Nd.flat (h + 1) ((L3, ts3) : Nd It (h + 1))) old' th') := ⟨by rw [hF3]; exact X2.out.1, X2.out.2, hsub3, by show t.1.length ≤ L3.length; have := Hn.out; omega, by show L3.length ≤ 16; omega, P3⟩
      clear hw3 w3 hL3 hts3 hsub3 hn3 P3 hF3
      cases th' with
      | true =>
        go_wp2_with fail
        go_ret2
        refine ⟨((L3, ts3) : Nd It (h + 1)), F3, old', true, rfl, ?_, X3.out.1, X3.out.2.1, X3.out.2.2.1, X3.out.2.2.2.1, X3.out.2.2.2.2.1, X3.out.2.2.2.2.2⟩
        rw [NW_X]
        have e : ((Nd.flat (h + 1) ((L3, ts3) : Nd It (h + 1))).length : Int) = s := by
          rcases X3.out.2.2.2.2.2 with ⟨_, hi⟩ | ⟨e, _⟩
          · have := hi.len; have := Hs.out; omega
          · cases e
        rw [e]
        exact N3.out
      | false =>
        obtain ⟨c2, f2⟩ := N3.out.cells
        have hsw : IntKind.i64.wrap (s + 1) = s + 1 := by rw [IntKind.wrap_i64]; have := Hs.out; have := Hb.out; omega
        have hsb : s < 1000000000000000000 := by have := Hs.out; have := Hb.out; omega
        have hsb0 : 0 ≤ s := by have := Hs.out; omega
        go_wp2_with fail
        go_ret2
        obtain ⟨m1, m2⟩ := N3.out.setSz (X3.out.1.nod HNod.out) (s + 1)
        refine ⟨((L3, ts3) : Nd It (h + 1)), F3, old', false, rfl, ?_, X3.out.1, X3.out.2.1.trans m2 (fun i hi hm => ?_), X3.out.2.2.1, X3.out.2.2.2.1, X3.out.2.2.2.2.1, X3.out.2.2.2.2.2⟩
        · rw [NW_X]
          have e : ((Nd.flat (h + 1) ((L3, ts3) : Nd It (h + 1))).length : Int) = s + 1 := by
            rcases X3.out.2.2.2.2.2 with ⟨e, _⟩ | ⟨_, _, hi⟩
            · cases e
            · have := hi.len; have := Hs.out; omega
          rw [e]
          exact m1
        · rcases X3.out.1.old hm with h6 | h6
          · exact h6
          · omega
theorem put_any : ∀ (h : Nat) (w : World) (p : Nat) (k : ByteArray) (v : GV) (t : Nd It h) (F : List Nat), NW h w p t F → Nod F → t.sub → t.its.length ≤ 15 → Sorted (t.flat h) → (t.flat h).length < 1000000000000000000 → Calls Try.prog 29 #[pv p, .string k, ev v] w (fun x w' => ∃ (t' : Nd It h) (F' : List Nat) (old : GV) (th : Bool), x = .returned (.tuple #[ev old, .bool th]) ∧ NW h w' p t' F' ∧ Fits w.heap.size F F' ∧ Tch (fun i => i ∈ F) w w' ∧ t'.sub ∧ t.its.length ≤ t'.its.length ∧ t'.its.length ≤ 16 ∧ PutRel k v (t.flat h) (t'.flat h) old th)
  | 0, w, p, k, v, t, F, a, b, c, d, e, f => put_leaf w p k v t F a b c d e f
  | h + 1, w, p, k, v, t, F, a, b, c, d, e, f => put_inner h w p k v t F a b c d e f (fun w p t F => put_any h w p k v t F)
end Go.Proofs.Ytnjiiebjdpipjaa
