import Derived.Test.YtnjiiebjdpipjaaTLastI
import Derived.Test.YtnjiiebjdpipjaaOrdv
/- remove. -/
namespace Go.Proofs.Ytnjiiebjdpipjaa
open Go.RowKit Go

/-- A key that is not there. -/
def Gap (k : ByteArray) (l : List It) : Prop := ∃ x y, l = x ++ y ∧ (∀ e ∈ x, Lo k e) ∧ ∀ e ∈ y, Hi k e
/-- What remove does. -/
def RemRel (k : ByteArray) (fl fl' : List It) (old : GV) (th : Bool) : Prop := (th = true ∧ Ins (Lo k) (Hi k) (k, old) fl' fl) ∨ (th = false ∧ old = gv0 ∧ fl' = fl ∧ Gap k fl)
theorem RemRel.kid {h : Nat} {A B : List It} {ka kb : List (Nd It h)} {kk k' : Nd It h} {k : ByteArray} {old : GV} {th : Bool} (hr : RemRel k (kk.flat h) (k'.flat h) old th) (hka : ka.length = A.length) (hA : ∀ e ∈ A, Lo k e) (hB : ∀ e ∈ B, Hi k e) (hp : Sorted (Nd.flat (h + 1) ((A ++ B, ka ++ kk :: kb) : Nd It (h + 1)))) : RemRel k (Nd.flat (h + 1) ((A ++ B, ka ++ kk :: kb) : Nd It (h + 1))) (Nd.flat (h + 1) ((A ++ B, ka ++ k' :: kb) : Nd It (h + 1))) old th := by
  obtain ⟨-, h2, -⟩ := kid_ins KL (Lo k) (Hi k) (fun e e' => Lo.of) (fun e e' => Hi.of) h A B ka kb kk k' hka hA hB hp
  rcases hr with ⟨e, hr⟩ | ⟨e, e2, e3, x, y, e4, hx, hy⟩
  · exact Or.inl ⟨e, h2 _ hr⟩
  · refine Or.inr ⟨e, e2, ?_, ?_⟩
    · rw [kid_mid h A B ka kb k' hka, kid_mid h A B ka kb kk hka, e3]
    · rw [kid_mid h A B ka kb kk hka] at hp ⊢
      obtain ⟨p1, p2, _⟩ := List.pairwise_append.mp hp
      obtain ⟨_, p3, _⟩ := List.pairwise_append.mp p2
      have hX := ahead_all KL (Lo k) (fun e e' => Lo.of) A (ka.map (Nd.flat h)) (by simpa using hka) p1 hA
      have hY := behind_all KL (Hi k) (fun e e' => Hi.of) B (kb.map (Nd.flat h)) p3 hB
      rw [e4]
      exact ⟨mix A (ka.map (Nd.flat h) ++ [[]]) ++ x, y ++ mix B ([] :: kb.map (Nd.flat h)), by simp, fun e he => (List.mem_append.1 he).elim (hX e) (hx e), fun e he => (List.mem_append.1 he).elim (hy e) (hY e)⟩
theorem RemRel.len {k : ByteArray} {fl fl' : List It} {old : GV} {th : Bool} (h : RemRel k fl fl' old th) : (fl.length : Int) = fl'.length + (if th then 1 else 0) := by
  rcases h with ⟨rfl, hr⟩ | ⟨rfl, _, e, _⟩
  · have := hr.len; simp; omega
  · rw [e]; simp
/-- An item set in its place, in a node with kids. -/
theorem NWX.setIt {h : Nat} {w : World} {p g c n k : Nat} {L : List It} {ts : List (Nd It h)} {F : List Nat} {s : Int} {e : It} (hN : NWX h w p L ts F s) (hn : Nod F) (hc : w.cell? ⟨p, 0, none⟩ = some (.slice (some ⟨g, 0, none⟩) n c)) (hk : k < L.length) :
    NWX h ((w.setCell ⟨g, k * 2, none⟩ (.string e.1)).setCell ⟨g, k * 2 + 1, none⟩ (ev e.2)) p (L.set k e) ts F s ∧ Tch (fun i => i ∈ F) w ((w.setCell ⟨g, k * 2, none⟩ (.string e.1)).setCell ⟨g, k * 2 + 1, none⟩ (ev e.2)) := by
  obtain ⟨iv, kv, qs, FF, hP, ⟨ks, rfl, rfl, rfl, h3⟩, rfl⟩ := hN
  have hnf : Nod (fb p iv kv) := fun b => by have := hn b; rw [List.count_append] at this; omega
  obtain ⟨io, ic, rfl⟩ := row_slice hP.its
  have e1 := hP.nd.cells.1
  rw [hc] at e1
  injection e1 with e1
  injection e1 with e1 e2 e3
  subst e1; subst e2; subst e3
  obtain ⟨r1, r2⟩ := hP.setIt (e := e) hnf hk
  have hg : g ∈ fb p (.slice (some ⟨g, 0, none⟩) L.length c) kv := mem_fbi rfl
  have hap : ∀ b ∈ kF ks, ¬ b = g := fun b hb e' => by
    have h0 : (fb p (.slice (some ⟨g, 0, none⟩) L.length c) kv).count b + (kF ks).count b ≤ 1 := by have := hn b; rw [List.count_append] at this; exact this
    have h1 := count_mem hb
    have h2 : 1 ≤ (fb p (.slice (some ⟨g, 0, none⟩) L.length c) kv).count b := count_mem (by rw [e']; exact hg)
    omega
  refine ⟨⟨_, kv, _, _, r1, ⟨ks, rfl, rfl, rfl, kids_tch h3 r2 hap⟩, ?_⟩, r2.mono (fun i _ e' => by rw [e']; exact List.mem_append_left _ hg)⟩
  unfold fb
  rw [bl_of (show (Value.slice (some ⟨g, 0, none⟩) (L.set k e).length c).ownBlock = (Value.slice (some ⟨g, 0, none⟩) L.length c).ownBlock from rfl)]
set_option maxHeartbeats 4000000 in
set_option maxRecDepth 100000 in
theorem rem_leaf (w : World) (p : Nat) (k : ByteArray) (t : Nd It 0) (F : List Nat) (hN : NW 0 w p t F) (hn : Nod F) (hs : t.sub) (hl : t.its.length ≤ 15) (hso : Sorted (t.flat 0)) (hb : (t.flat 0).length < 1000000000000000000) :
    Calls Try.prog 33 #[pv p, .string k] w (fun x w' => ∃ (t' : Nd It 0) (F' : List Nat) (old : GV) (th : Bool), x = .returned (.tuple #[ev old, .bool th]) ∧ NW 0 w' p t' F' ∧ Fits w.heap.size F F' ∧ Tch (fun i => i ∈ F) w w' ∧ t'.sub ∧ t'.its.length ≤ t.its.length ∧ t.its.length ≤ t'.its.length + 1 ∧ RemRel k (t.flat 0) (t'.flat 0) old th) := by
  have HN : Hid (NW 0 w p t F) := hN
  have HNod : Hid (Nod F) := hn
  have Hsub : Hid (Nd.sub 0 t) := hs
  have Hl15 : Hid (t.its.length ≤ 15) := hl
  have Hso : Hid (Sorted (t.flat 0)) := hso
  have Hb : Hid ((t.flat 0).length < 1000000000000000000) := hb
  obtain ⟨iv, kv, qs, FF, hP, hK, hFe⟩ := NW_iff.1 hN
  have he := sub_even 0 t hs
  have q := find_any p t.its k iv kv _ w hP.nd hP.its (its_sorted t he hso) (by omega)
  have HP : Hid (FN w p iv kv t.its qs (Nd.flat 0 t).length) := hP
  have hq0 : qs = [] := hK.1
  subst hq0
  have hF0 : FF = [] := hK.2
  subst hF0
  have HFe : Hid (F = fb p iv kv ++ []) := hFe
  clear hP hK hFe
  clear hN hn hs hl hso hb he
  go_enter Try.func33, Try.ntmps33
  go_wp2_with fail
  refine q.mono ?_
  rintro x w1 ⟨⟨i, th, rfl, hF⟩, t1⟩
  clear q
  have hP1 := HP.out.tch t1 (fun _ _ h => h)
  have q := leaf_any p iv kv t.its [] _ w1 hP1
  cases th with
  | true =>
    obtain ⟨it, hit, hk⟩ := hF.at_ rfl
    obtain ⟨hi, hit2⟩ := List.getElem?_eq_some_iff.1 hit
    obtain ⟨g, ic, ei, -, -, -, -, j1, -⟩ := it_at hP1.its hi
    subst ei
    rw [hit2] at j1
    obtain ⟨n, hn⟩ : ∃ n, n + 1 = t.its.length := ⟨t.its.length - 1, by omega⟩
    have hnf : Nod (fb p (.slice (some ⟨g, 0, none⟩) t.its.length ic) kv) := fun b => by have := HNod.out b; rw [HFe.out, List.append_nil] at this; exact this
    obtain ⟨l', hl'⟩ : ∃ l', l' = t.its.take i ++ t.its.drop (i + 1) := ⟨_, rfl⟩
    have hll : l'.length = n := by rw [hl']; simp only [List.length_append, List.length_take, List.length_drop]; omega
    have qd : Calls Try.prog 54 #[.slice (some ⟨g, 0, none⟩) (n + 1) ic, .int .i64 i, .int .i64 (i + 1)] w1 fun x w' => ∃ o c, x = .returned (.slice o n c) ∧ RI (.slice (some ⟨g, 0, none⟩) (n + 1) ic) (.slice o n c) l' w1 w' := by
      have ho := hP1.its
      rw [← hn] at ho
      refine (Idelete_any _ (n + 1) i 1 (icl t.its) w1 ho (by omega) (by omega) (by have := Hl15.out; omega) (icl_one _)).mono ?_
      rintro x w' ⟨⟨v', rfl, hb', own'⟩, t'⟩
      rw [icl_take, icl_drop, ← icl_app, ← hl', show n + 1 - 1 = n by omega] at own'
      obtain ⟨o, c, rfl⟩ := row_slice own'
      exact ⟨o, c, rfl, by rw [hll]; exact own', Or.inl hb', t'⟩
    have c0 := hP1.nd.cells.1
    have hsz : ((Nd.flat 0 t).length : Int) = (n : Int) + 1 := by
      have h0 : (Nd.flat 0 t).length = t.its.length := rfl
      omega
    have hPn := hP1
    rw [← hn, hsz] at hPn
    rw [← hn] at c0 hnf
    have HPn : Hid (FN w1 p (.slice (some ⟨g, 0, none⟩) (n + 1) ic) kv t.its [] (n + 1)) := hPn
    have Hnf : Hid (Nod (fb p (.slice (some ⟨g, 0, none⟩) (n + 1) ic) kv)) := hnf
    have T01 : Hid (Tch (fun _ => False) w w1) := t1
    have HF : Hid (Found t.its k i true) := hF
    have Hl' : Hid (l' = t.its.take i ++ t.its.drop (i + 1)) := hl'
    have Hn : Hid (n + 1 = t.its.length) := hn
    have Hit : Hid (t.its = t.its.take i ++ (k, it.2) :: t.its.drop (i + 1)) := by
      show _ = _
      rw [← hk]
      exact (list_cut t.its i it hit).symm
    have hiI : (i : Int) < (n : Int) + 1 := by omega
    have hn16 : (n : Int) < 16 := by have := Hl15.out; omega
    obtain ⟨ov, hov⟩ : ∃ ov, ov = it.2 := ⟨_, rfl⟩
    rw [← hov] at j1 Hit
    clear hP1 hPn hnf t1 hF hl' hn hit hit2 hk hi hsz hov
    go_wp2_with (go_at_call 51; refine q.mono ?_; rintro x w1' ⟨rfl, hwx⟩; subst hwx; clear q)
    refine qd.mono ?_
    rintro x w3 ⟨o3, c3, rfl, R3⟩
    obtain ⟨s1, s2, s3⟩ := HPn.out.stepI R3 Hnf.out
    have n0 := (nod_self Hnf.out).1
    obtain ⟨f1, -, f2, f3⟩ := (HPn.out.nd.tch R3.tch n0).cells
    have f30 := f3 0
    have f32 := f3 2
    have HFF : Hid (F = fb p (.slice (some ⟨g, 0, none⟩) (n + 1) ic) kv) := by show F = _; rw [HFe.out, List.append_nil, Hn.out]
    have HT : Hid (Tch (fun i => i ∈ F) w1' (w3.setCell ⟨p, 0, none⟩ (.slice o3 n c3))) := by rw [HFF.out]; exact s2
    have S1 : Hid (FN (w3.setCell ⟨p, 0, none⟩ (.slice o3 n c3)) p (.slice o3 n c3) kv l' [] (n + 1)) := s1
    have S3' : Hid (Fits w1'.heap.size F (fb p (.slice o3 n c3) kv)) := by rw [HFF.out]; exact s3
    clear s1 s2 s3 n0 f3 R3 qd c0 j1
    go_wp2_with fail
    go_ret2
    have hself := nod_self (S3'.out.nod HNod.out)
    have ts : Tch (fun i => i = p) (w3.setCell ⟨p, 0, none⟩ (.slice o3 n c3)) ((w3.setCell ⟨p, 0, none⟩ (.slice o3 n c3)).setCell ⟨p, 2, none⟩ (.int .i64 n)) := Tch.setCell _ _ _ _ rfl
    have hfn : FN ((w3.setCell ⟨p, 0, none⟩ (.slice o3 n c3)).setCell ⟨p, 2, none⟩ (.int .i64 n)) p (.slice o3 n c3) kv l' [] ((l'.length : Nat) : Int) := ⟨by rw [hll]; exact S1.out.nd.setSz, own_tch S1.out.its ts (fun g e e' => hself.1 (by rw [← e']; exact e)), own_tch S1.out.kids ts (fun g e e' => hself.2 (by rw [← e']; exact e))⟩
    refine ⟨(l' : Nd It 0), fb p (.slice o3 n c3) kv ++ [], ov, true, rfl, ⟨_, _, hfn, rfl⟩, ?_, ((T01.out.mono (fun _ _ h => h.elim)).trans' HT.out).trans ts (fun i hi e => ?_), trivial, ?_, ?_, Or.inl ⟨rfl, t.its.take i, t.its.drop (i + 1), HF.out.lo, HF.out.behind rfl, Hl'.out, Hit.out⟩⟩
    · rw [List.append_nil]
      exact fun b => by
        have := S3'.out b
        have h4 := T01.out.size
        exact ⟨fun hb => this.1 (by omega), fun hb => S3'.out.nod HNod.out b⟩
    · rw [HFF.out, e]; simp [fb]
    · show l'.length ≤ t.its.length; have := Hn.out; omega
    · show t.its.length ≤ l'.length + 1; have := Hn.out; omega
  | false =>
    have T01 : Hid (Tch (fun _ => False) w w1) := t1
    have HF : Hid (Found t.its k i false) := hF
    clear hP1 t1 hF
    go_wp2_with (go_at_call 51; refine q.mono ?_; rintro x w1' ⟨rfl, hwx⟩; subst hwx; clear q)
    go_ret2
    exact ⟨t, F, gv0, false, rfl, HN.out.tch T01.out (fun _ _ h => h), Fits.refl HNod.out, T01.out.mono (fun _ _ h => h.elim), trivial, Nat.le_refl _, by omega, Or.inr ⟨rfl, rfl, rfl, t.its.take i, t.its.drop i, (List.take_append_drop i t.its).symm, HF.out.lo, HF.out.hi rfl⟩⟩
end Go.Proofs.Ytnjiiebjdpipjaa
/- remove of a node with kids. -/
namespace Go.Proofs.Ytnjiiebjdpipjaa
open Go.RowKit Go

set_option maxHeartbeats 4000000 in
set_option maxRecDepth 100000 in
theorem rem_inner (h : Nat) (w : World) (p : Nat) (k : ByteArray) (t : Nd It (h + 1)) (F : List Nat) (hN : NW (h + 1) w p t F) (hn : Nod F) (hs : t.sub) (hl : t.its.length ≤ 15) (hso : Sorted (t.flat (h + 1))) (hb : (t.flat (h + 1)).length < 1000000000000000000)
    (IH : ∀ (w : World) (p : Nat) (t : Nd It h) (F : List Nat), NW h w p t F → Nod F → t.sub → t.its.length ≤ 15 → 1 ≤ t.its.length → Sorted (t.flat h) → (t.flat h).length < 1000000000000000000 → Calls Try.prog 33 #[pv p, .string k] w (fun x w' => ∃ (t' : Nd It h) (F' : List Nat) (old : GV) (th : Bool), x = .returned (.tuple #[ev old, .bool th]) ∧ NW h w' p t' F' ∧ Fits w.heap.size F F' ∧ Tch (fun i => i ∈ F) w w' ∧ t'.sub ∧ t'.its.length ≤ t.its.length ∧ t.its.length ≤ t'.its.length + 1 ∧ RemRel k (t.flat h) (t'.flat h) old th)) (h1 : 1 ≤ t.its.length) :
    Calls Try.prog 33 #[pv p, .string k] w (fun x w' => ∃ (t' : Nd It (h + 1)) (F' : List Nat) (old : GV) (th : Bool), x = .returned (.tuple #[ev old, .bool th]) ∧ NW (h + 1) w' p t' F' ∧ Fits w.heap.size F F' ∧ Tch (fun i => i ∈ F) w w' ∧ t'.sub ∧ t'.its.length ≤ t.its.length ∧ t.its.length ≤ t'.its.length + 1 ∧ RemRel k (t.flat (h + 1)) (t'.flat (h + 1)) old th) := by
  have HN : Hid (NW (h + 1) w p t F) := hN
  have HNod : Hid (Nod F) := hn
  have Hsub : Hid (Nd.sub (h + 1) t) := hs
  have Hl15 : Hid (t.its.length ≤ 15) := hl
  have Hso : Hid (Sorted (t.flat (h + 1))) := hso
  have Hb : Hid ((t.flat (h + 1)).length < 1000000000000000000) := hb
  obtain ⟨iv, kv, qs, FF, hP, hK, hFe⟩ := NW_iff.1 hN
  have he := sub_even (h + 1) t hs
  have q := find_any p t.its k iv kv _ w hP.nd hP.its (its_sorted t he hso) (by omega)
  have HP : Hid (FN w p iv kv t.its qs (Nd.flat (h + 1) t).length) := hP
  have hqs : qs.isEmpty = false := by
    obtain ⟨ks, e1, e2, _, _⟩ := hK
    have h9 : t.2.length = t.1.length + 1 := he
    rw [e2, List.length_map] at h9
    rw [e1]
    cases ks with
    | nil => simp at h9
    | cons x ks => rfl
  obtain ⟨s, hsz⟩ : ∃ s : Int, s = ((Nd.flat (h + 1) t).length : Int) := ⟨_, rfl⟩
  have Hs : Hid (s = ((Nd.flat (h + 1) t).length : Int)) := hsz
  have HIH : Hid _ := IH
  have H1 : Hid (1 ≤ t.its.length) := h1
  clear hP hK hFe hsz IH h1
  clear hN hn hs hl hso hb he
  go_enter Try.func33, Try.ntmps33
  go_wp2_with fail
  refine q.mono ?_
  rintro x w1 ⟨⟨i, th, rfl, hF⟩, t1⟩
  clear q
  have hP1 := HP.out.tch t1 (fun _ _ h => h)
  have q := leaf_any p iv kv t.its qs _ w1 hP1
  rw [hqs] at q
  cases th with
  | true =>
    obtain ⟨it, hit, hk⟩ := hF.at_ rfl
    obtain ⟨hi, hit2⟩ := List.getElem?_eq_some_iff.1 hit
    have hi' : i < t.1.length := hi
    obtain ⟨g, ic, ei, -, -, hgl, j0, j1, jf⟩ := it_at hP1.its hi
    rw [hit2] at j0 j1
    obtain ⟨ka, kb, kk, et0, hka, hkb, hma, hmb, hmk⟩ := node_at t i (Nat.le_of_lt hi) Hsub.out.1
    have hok := Hsub.out.2
    obtain ⟨A, hA⟩ : ∃ A, A = t.1.take i := ⟨_, rfl⟩
    obtain ⟨B, hB⟩ : ∃ B, B = t.1.drop (i + 1) := ⟨_, rfl⟩
    have hcut : A ++ it :: B = t.1 := by rw [hA, hB]; exact list_cut t.1 i it hit
    have et : t = ((A ++ it :: B, ka ++ kk :: kb) : Nd It (h + 1)) := Prod.ext hcut.symm (by have := congrArg Prod.snd et0; exact this)
    have hAl : A.length = i := by rw [hA, List.length_take]; omega
    have hBl : B.length + 1 + i = t.1.length := by rw [hB, List.length_drop]; omega
    have hN1 : NWX h w1 p (A ++ it :: B) (ka ++ kk :: kb) F s := by
      have h0 : NW (h + 1) w1 p t F := HN.out.tch t1 (fun _ _ h => h)
      rw [Hs.out]
      rw [et] at h0 ⊢
      exact NW_X.1 h0
    obtain ⟨qk, Fk, kg, kd, d1, k0, hq, hnk, -, hpF, hkgF, hgF, hstep⟩ := hN1.kid HNod.out
    have c0 := hP1.nd.cells.1
    rw [ei] at c0
    have hgF' := hgF g _ _ c0
    have hkk := hok kk hmk
    have hkks := (ok_iff h kk).1 hkk.1
    have hb2 := Hb.out
    rw [et] at hb2
    have hsz : (kk.flat h).length ≤ 1000000000000000000 := Nat.le_trans (kid_size A (it :: B) ka kb kk (hka.trans hAl.symm)) (Nat.le_of_lt hb2)
    have hmp : (ka ++ kk :: kb).length = t.1.length + 1 := by simp only [List.length_append, List.length_cons]; omega
    have hl15 : t.1.length ≤ 15 := Hl15.out
    obtain ⟨n, hn⟩ : ∃ n, n = t.1.length := ⟨_, rfl⟩
    rw [hmp, ← hn] at d1
    rw [hka] at k0
    have hc0 : w1.cell? ⟨p, 0, none⟩ = some (.slice (some ⟨g, 0, none⟩) n ic) := by rw [hn]; exact c0
    clear c0
    rw [← hn] at hl15 hBl hkb hi'
    have hiI : (i : Int) < n := by omega
    have hiI2 : (i : Int) < (n : Int) + 1 := by omega
    have Het : Hid (t = ((A ++ it :: B, ka ++ kk :: kb) : Nd It (h + 1))) := et
    have Hn : Hid (n = t.1.length) := hn
    have Hka : Hid (∀ x ∈ ka, x.ok ∧ 7 ≤ x.its.length) := fun x hx => hok x (hma x hx)
    have Hkb : Hid (∀ x ∈ kb, x.ok ∧ 7 ≤ x.its.length) := fun x hx => hok x (hmb x hx)
    have Hkk : Hid (7 ≤ kk.its.length ∧ kk.its.length ≤ 15) := ⟨hkk.2, hkks.1⟩
    have Hstep : Hid (∀ (w' : World) (k' : Nd It h) (Fk' : List Nat), NW h w' qk k' Fk' → Fits w1.heap.size Fk Fk' → Tch (fun i => i ∈ Fk) w1 w' → ∃ F', NWX h w' p (A ++ it :: B) (ka ++ k' :: kb) F' s ∧ Fits w1.heap.size F F' ∧ Tch (fun i => i ∈ F) w1 w') := hstep
    have T01 : Hid (Tch (fun _ => False) w w1) := t1
    have Hitk : Hid (it = (k, it.2)) := by show it = _; rw [← hk]
    have Hap : Hid (p ∉ Fk ∧ kg ∉ Fk ∧ g ∉ Fk) := ⟨hpF, hkgF, hgF'⟩
    have Hj : Hid (w1.cell? ⟨g, i * 2, none⟩ = some (.string it.1) ∧ w1.cell? ⟨g, i * 2 + 1, none⟩ = some (ev it.2) ∧ ∀ j, w1.frozen? ⟨g, j, none⟩ = false) := ⟨j0, j1, jf⟩
    have HQ : Hid (NW h w1 qk kk Fk) := hq
    have HQn : Hid (Nod Fk ∧ kk.sub ∧ (kk.flat h).length ≤ 1000000000000000000) := ⟨hnk, hkks.2, hsz⟩
    have hd1 := d1
    have hk0 := k0
    clear hN1 hstep hq hnk hok hkk hkks hb2 et et0 hA hB hcut hF t1 hn hmp hmk hma hmb hP1 HIH hgF hgF' hpF hkgF hsz j0 jf ei hit hit2 hk hgl hi hd1 hk0
    go_wp2_with (go_at_call 51; refine q.mono ?_; rintro x w1' ⟨rfl, hwx⟩; subst hwx; clear q)
    have HK : Hid (∀ W, Tch (fun i => i ∈ Fk) w1' W → (W.cell? ⟨p, 0, none⟩ = some (.slice (some ⟨g, 0, none⟩) n ic) ∧ W.cell? ⟨p, 1, none⟩ = some (.slice (some ⟨kg, 0, none⟩) (n + 1) kd) ∧ W.cell? ⟨kg, i, none⟩ = some (pv qk))) := fun W tW => ⟨by rw [tW.cell (p := ⟨p, 0, none⟩) (cell_lt hc0) Hap.out.1]; exact hc0, by rw [tW.cell (p := ⟨p, 1, none⟩) (cell_lt d1) Hap.out.1]; exact d1, by rw [tW.cell (p := ⟨kg, i, none⟩) (cell_lt k0) Hap.out.2.1]; exact k0⟩
    obtain ⟨C, hC⟩ : ∃ C : List Value → World → Prop, C = fun s W => match s with
      | [] => Tch (fun _ => False) w1' W
      | [y] => ∃ m, y = itV m ∧ ∃ (k' : Nd It h) (Fk' : List Nat), NW h W qk k' Fk' ∧ Fits w1'.heap.size Fk Fk' ∧ Tch (fun i => i ∈ Fk) w1' W ∧ k'.sub ∧ k'.its.length ≤ kk.its.length ∧ kk.its.length ≤ k'.its.length + 1 ∧ kk.flat h = k'.flat h ++ [m]
      | _ => False := ⟨_, rfl⟩
    have hK : ∀ s W, C s W → W.cell? ⟨p, 0, none⟩ = some (.slice (some ⟨g, 0, none⟩) n ic) ∧ W.cell? ⟨p, 1, none⟩ = some (.slice (some ⟨kg, 0, none⟩) (n + 1) kd) ∧ W.cell? ⟨kg, i, none⟩ = some (pv qk) := fun s W h => by
      rw [hC] at h
      match s, h with
      | [], h => exact HK.out W (h.mono (fun _ _ h => h.elim))
      | [_], ⟨_, _, _, _, _, _, h, _⟩ => exact HK.out W h
    have h2 : ∀ W, C [] W → Calls Try.prog 55 #[pv qk] W fun x w' => ∃ m, x = .returned (itV m) ∧ C [itV m] w' := fun W tW => by
      rw [hC] at tW
      have tW' : Tch (fun _ => False) w1' W := tW
      refine (last_any h W qk kk Fk (HQ.out.tch tW' (fun _ _ h => h)) HQn.out.1 HQn.out.2.1 (by have := Hkk.out.1; omega) Hkk.out.2 HQn.out.2.2).mono ?_
      rintro x w' ⟨k', Fk', m, rfl, nk', fk', tk', sk', lk', lk'', fl'⟩
      refine ⟨m, rfl, ?_⟩
      rw [hC]
      exact ⟨m, rfl, k', Fk', nk', fun b => ⟨fun hb => (fk' b).1 (Nat.lt_of_lt_of_le hb tW'.size), fun _ => fk'.nod HQn.out.1 b⟩, (tW'.mono (fun _ _ h => h.elim)).trans' tk', sk', lk', lk'', fl'⟩
    have h2s : ∀ y W, C [y] W → ∃ m : It, y = itV m := fun y W h => by
      rw [hC] at h
      obtain ⟨m, e, _⟩ := h
      exact ⟨m, e⟩
    have Hfin : Hid (∀ y W, C [y] W → ∃ m, y = itV m ∧ ∃ (k' : Nd It h) (Fk' : List Nat), NW h W qk k' Fk' ∧ Fits w1'.heap.size Fk Fk' ∧ Tch (fun i => i ∈ Fk) w1' W ∧ k'.sub ∧ k'.its.length ≤ kk.its.length ∧ kk.its.length ≤ k'.its.length + 1 ∧ kk.flat h = k'.flat h ++ [m]) := fun y W h => by
      rw [hC] at h
      exact h
    have h0' : C [] w1'.drew := by rw [hC]; exact (Tch.refl _ _).drew
    clear hC HK
    refine wp_region_ordv [12] C 13 [0, 1, 2, 3, 4, 5, 6, 7, 8, 9, 10, 11, 12] (by kernel_rfl) (by kernel_rfl) h0' ?_
    clear h0'
    refine ordv_read rfl (by go_simp) (by rfl) ?_
    apply Exists.intro
    refine ⟨fun s' Wy hW b K Q hK' => ?_, fun K hK' => ?_⟩
    · obtain ⟨y0, y1, y2⟩ := hK _ Wy hW
      go_simp
      exact hK' Wy hW
    go_simp
    refine hK' _ ?_
    clear hK' K
    refine ordv_read rfl (by go_simp) (by rfl) ?_
    apply Exists.intro
    refine ⟨fun s' Wy hW b K Q hK' => ?_, fun K hK' => ?_⟩
    · obtain ⟨y0, y1, y2⟩ := hK _ Wy hW
      go_simp
      exact hK' Wy hW
    go_simp
    refine hK' _ ?_
    clear hK' K
    refine ordv_read rfl (by go_simp) (by rfl) ?_
    apply Exists.intro
    refine ⟨fun s' Wy hW b K Q hK' => ?_, fun K hK' => ?_⟩
    · obtain ⟨y0, y1, y2⟩ := hK _ Wy hW
      go_simp
      exact hK' Wy hW
    go_simp
    refine hK' _ ?_
    clear hK' K
    refine ordv_read rfl (by go_simp) (by rfl) ?_
    apply Exists.intro
    refine ⟨fun s' Wy hW b K Q hK' => ?_, fun K hK' => ?_⟩
    · obtain ⟨y0, y1, y2⟩ := hK _ Wy hW
      go_simp
      exact hK' Wy hW
    go_simp
    refine hK' _ ?_
    clear hK' K
    refine ordv_read rfl (by go_simp) (by rfl) ?_
    apply Exists.intro
    refine ⟨fun s' Wy hW b K Q hK' => ?_, fun K hK' => ?_⟩
    · obtain ⟨y0, y1, y2⟩ := hK _ Wy hW
      go_simp
      exact hK' Wy hW
    go_simp
    refine hK' _ ?_
    clear hK' K
    refine ordv_read rfl (by go_simp) (by rfl) ?_
    apply Exists.intro
    refine ⟨fun s' Wy hW b K Q hK' => ?_, fun K hK' => ?_⟩
    · obtain ⟨y0, y1, y2⟩ := hK _ Wy hW
      go_simp
      exact hK' Wy hW
    go_simp
    refine hK' _ ?_
    clear hK' K
    refine ordv_read rfl (by go_simp) (by rfl) ?_
    apply Exists.intro
    refine ⟨fun s' Wy hW b K Q hK' => ?_, fun K hK' => ?_⟩
    · obtain ⟨y0, y1, y2⟩ := hK _ Wy hW
      go_simp
      exact hK' Wy hW
    go_simp
    refine hK' _ ?_
    clear hK' K
    refine ordv_read rfl (by go_simp) (by rfl) ?_
    apply Exists.intro
    refine ⟨fun s' Wy hW b K Q hK' => ?_, fun K hK' => ?_⟩
    · obtain ⟨y0, y1, y2⟩ := hK _ Wy hW
      go_simp
      exact hK' Wy hW
    go_simp
    refine hK' _ ?_
    clear hK' K
    refine ordv_read rfl (by go_simp) (by rfl) ?_
    apply Exists.intro
    refine ⟨fun s' Wy hW b K Q hK' => ?_, fun K hK' => ?_⟩
    · obtain ⟨y0, y1, y2⟩ := hK _ Wy hW
      go_simp
      exact hK' Wy hW
    go_simp
    refine hK' _ ?_
    clear hK' K
    refine ordv_read rfl (by go_simp) (by rfl) ?_
    apply Exists.intro
    refine ⟨fun s' Wy hW b K Q hK' => ?_, fun K hK' => ?_⟩
    · obtain ⟨y0, y1, y2⟩ := hK _ Wy hW
      go_simp
      exact hK' Wy hW
    go_simp
    refine hK' _ ?_
    clear hK' K
    refine ordv_read rfl (by go_simp) (by rfl) ?_
    apply Exists.intro
    refine ⟨fun s' Wy hW b K Q hK' => ?_, fun K hK' => ?_⟩
    · obtain ⟨y0, y1, y2⟩ := hK _ Wy hW
      go_simp
      exact hK' Wy hW
    go_simp
    refine hK' _ ?_
    clear hK' K
    refine ordv_read rfl (by go_simp) (by rfl) ?_
    apply Exists.intro
    refine ⟨fun s' Wy hW b K Q hK' => ?_, fun K hK' => ?_⟩
    · obtain ⟨y0, y1, y2⟩ := hK _ Wy hW
      go_simp
      exact hK' Wy hW
    go_simp
    refine hK' _ ?_
    clear hK' K
    refine ordv_turn rfl (by go_simp) (by rfl) (fun Wy hW b K Q hK' => ?_) (fun u hu K hK' => ?_)
    · go_simp
      go_at_call 55
      refine (h2 Wy hW).mono ?_
      rintro x w' ⟨m, rfl, h3⟩
      exact hK' _ w' h3
    obtain ⟨m, rfl⟩ : ∃ m : It, u = itV m := by
      obtain ⟨W', hW'⟩ := hu
      exact h2s u W' hW'
    clear hu h2 h2s
    go_simp
    refine hK' _ ?_
    clear hK' K
    refine ordv_nil ?_
    intro w2 hw2
    obtain ⟨m', em, k', Fk', nk', fk', tk', sk', lk', lk'', fl'⟩ := Hfin.out _ _ hw2
    have em' : m = m' := by
      injection em with em
      simp only [Array.mk.injEq, List.cons.injEq, Value.string.injEq, and_true] at em
      obtain ⟨e1, e2⟩ := em
      injection e2 with _ e2
      exact Prod.ext e1 e2
    subst em'
    obtain ⟨z0, -, -⟩ := hK _ _ hw2
    obtain ⟨F2, N2, fi2, tc2⟩ := Hstep.out w2 k' Fk' nk' fk' tk'
    have hgc : ∀ j, w2.cell? ⟨g, j, none⟩ = w1'.cell? ⟨g, j, none⟩ := fun j => tk'.cell (p := ⟨g, j, none⟩) (cell_lt Hj.out.1 : g < _) Hap.out.2.2
    have z1 : w2.cell? ⟨g, i * 2, none⟩ = some (.string it.1) := by rw [hgc]; exact Hj.out.1
    have z2 : w2.cell? ⟨g, i * 2 + 1, none⟩ = some (ev it.2) := by rw [hgc]; exact Hj.out.2.1
    have z3 : w2.frozen? ⟨g, i * 2, none⟩ = false := by rw [tk'.frozen (p := ⟨g, i * 2, none⟩) (cell_lt Hj.out.1 : g < _) Hap.out.2.2]; exact Hj.out.2.2 _
    have z4 : w2.frozen? ⟨g, i * 2 + 1, none⟩ = false := by rw [tk'.frozen (p := ⟨g, i * 2 + 1, none⟩) (cell_lt Hj.out.1 : g < _) Hap.out.2.2]; exact Hj.out.2.2 _
    have hnod2 := fi2.nod HNod.out
    obtain ⟨N3, tc3⟩ := N2.setIt (e := m) (k := i) hnod2 z0 (by simp only [List.length_append, List.length_cons]; omega)
    have hset : (A ++ it :: B).set i m = A ++ m :: B := by rw [← hAl]; exact set_mid A B it m
    rw [hset] at N3
    obtain ⟨w3, hw3⟩ : ∃ w3, w3 = (w2.setCell ⟨g, i * 2, none⟩ (.string m.1)).setCell ⟨g, i * 2 + 1, none⟩ (ev m.2) := ⟨_, rfl⟩
    rw [← hw3] at N3 tc3
    obtain ⟨LL, hLL⟩ : ∃ LL, LL = A ++ m :: B := ⟨_, rfl⟩
    have Hrel : Hid (RemRel k (Nd.flat (h + 1) t) (Nd.flat (h + 1) ((LL, ka ++ k' :: kb) : Nd It (h + 1))) it.2 true) := by
      obtain ⟨X, Y, e1, e2⟩ := item_gone h A B it m ka kb kk k' (hka.trans hAl.symm) fl'
      rw [← Het.out] at e1
      rw [hLL, e2]
      have hso := Hso.out
      rw [e1] at hso
      refine Or.inl ⟨rfl, X, Y, fun e he => ?_, fun e he => ?_, rfl, by rw [← Hitk.out]; exact e1⟩
      · have := (List.pairwise_append.1 hso).2.2 e he it (by simp)
        unfold KL at this
        rw [Hitk.out] at this
        exact this
      · have := (List.pairwise_cons.1 (List.pairwise_append.1 hso).2.1).1 e he
        unfold KL at this
        rw [Hitk.out] at this
        replace this : kc k e.1 < 0 := this
        have := kc_flip k e.1
        unfold Hi
        omega
    rw [← hLL] at N3
    have hLl : LL.length = n := by rw [hLL, List.length_append, List.length_cons]; omega
    have hflen : (Nd.flat (h + 1) ((LL, ka ++ k' :: kb) : Nd It (h + 1))).length ≤ 1000000000000000000 := by
      have h8 := Hrel.out.len
      have := Hb.out
      simp only [if_true] at h8
      omega
    have qm := mend_x h w3 p s LL ka kb k' F2 N3 hnod2 (by omega) (by omega) (by omega) (by have := Hkk.out.1; omega) (by have := Hkk.out.2; omega) sk' Hka.out Hkb.out hflen
    rw [hka] at qm
    have X2 : Hid (Fits w.heap.size F F2 ∧ Tch (fun i => i ∈ F) w w3) := ⟨fun b => by
      have := fi2 b
      have h4 := T01.out.size
      exact ⟨fun hb => this.1 (by omega), fun hb => hnod2 b⟩, ((T01.out.mono (fun _ _ h => h.elim)).trans' tc2).trans tc3 (fun i hi hm => by
        rcases fi2.old hm with h6 | h6
        · exact h6
        · have := T01.out.size; omega)⟩
    have Hw3 : Hid _ := hw3
    clear N2 fi2 tc2 tc3 N3 nk' fk' tk' hLL hflen lk' lk'' sk' fl' Hstep hnod2 hset hw3 hK hgc em hw2 Hfin d1 k0 hc0 j1 C
    go_wp2_with fail
    have hw := Hw3.out
    rw [← hw]
    clear hw z0 z1 z2 z3 z4
    refine qm.mono ?_
    rintro x w4 ⟨rfl, L', ts', F4, N4, fi4, tc4, sub4, fl4, le4, ge4⟩
    rw [hLl] at le4 ge4
    have X4 : Hid (NWX h w4 p L' ts' F4 s ∧ Fits w3.heap.size F2 F4 ∧ Tch (fun i => i ∈ F2) w3 w4 ∧ Nd.sub (h + 1) ((L', ts') : Nd It (h + 1)) ∧ Nd.flat (h + 1) ((L', ts') : Nd It (h + 1)) = Nd.flat (h + 1) ((LL, ka ++ k' :: kb) : Nd It (h + 1)) ∧ L'.length ≤ n ∧ n ≤ L'.length + 1) := ⟨N4, fi4, tc4, sub4, fl4, le4, ge4⟩
    clear N4 fi4 tc4 sub4 fl4 le4 ge4 qm
    obtain ⟨c2, f2⟩ := X4.out.1.cells
    have hsb : s < 1000000000000000000 := by have := Hs.out; have := Hb.out; omega
    have hsb0 : 1 ≤ s := by
      have h8 := Hrel.out.len
      have := Hs.out
      simp only [if_true] at h8
      omega
    go_wp2_with fail
    go_ret2
    obtain ⟨N4, fi4, tc4, sub4, fl4, le4, ge4⟩ := X4.out
    obtain ⟨m1, m2⟩ := N4.setSz (fi4.nod (X2.out.1.nod HNod.out)) (s - 1)
    refine ⟨((L', ts') : Nd It (h + 1)), F4, it.2, true, rfl, ?_, X2.out.1.trans fi4 X2.out.2.size, ?_, sub4, ?_, ?_, ?_⟩
    · rw [NW_X]
      have e : ((Nd.flat (h + 1) ((L', ts') : Nd It (h + 1))).length : Int) = s - 1 := by
        have h8 := Hrel.out.len
        have := Hs.out
        simp only [if_true] at h8
        rw [fl4]
        omega
      rw [e]
      exact m1
    · refine (X2.out.2.trans tc4 (fun i hi hm => ?_)).trans m2 (fun i hi hm => ?_)
      · rcases X2.out.1.old hm with h6 | h6
        · exact h6
        · omega
      · rcases (X2.out.1.trans fi4 X2.out.2.size).old hm with h6 | h6
        · exact h6
        · omega
    · show L'.length ≤ t.1.length; have := Hn.out; omega
    · show t.1.length ≤ L'.length + 1; have := Hn.out; omega
    · rw [fl4]; exact Hrel.out
  | false =>
    obtain ⟨ka, kb, kk, et, hka, hkb, hma, hmb, hmk⟩ := node_at t i hF.le Hsub.out.1
    have hok := Hsub.out.2
    obtain ⟨A, hA⟩ : ∃ A, A = t.1.take i := ⟨_, rfl⟩
    obtain ⟨B, hB⟩ : ∃ B, B = t.1.drop i := ⟨_, rfl⟩
    rw [← hA, ← hB] at et
    have hile0 : i ≤ t.1.length := hF.le
    have hAl : A.length = i := by rw [hA, List.length_take]; omega
    have hBl : B.length = t.1.length - i := by rw [hB, List.length_drop]
    have hAlo : ∀ e ∈ A, Lo k e := fun e he => hF.lo e (by rw [hA] at he; exact he)
    have hBhi : ∀ e ∈ B, Hi k e := fun e he => hF.hi rfl e (by rw [hB] at he; exact he)
    have hN1 : NWX h w1 p (A ++ B) (ka ++ kk :: kb) F s := by
      have h0 : NW (h + 1) w1 p t F := HN.out.tch t1 (fun _ _ h => h)
      rw [Hs.out]
      rw [et] at h0 ⊢
      exact NW_X.1 h0
    obtain ⟨qk, Fk, kg, kd, d1, k0, hq, hnk, -, -, -, -, hstep⟩ := hN1.kid HNod.out
    have hkk := hok kk hmk
    have hkks := (ok_iff h kk).1 hkk.1
    have hso2 := Hso.out
    have hb2 := Hb.out
    rw [et] at hso2 hb2
    have qp := HIH.out w1 qk kk Fk hq hnk hkks.2 hkks.1 (by omega) (kid_sorted (hka.trans hAl.symm) hso2) (Nat.lt_of_le_of_lt (kid_size A B ka kb kk (hka.trans hAl.symm)) hb2)
    have hmp : (ka ++ kk :: kb).length = t.1.length + 1 := by simp only [List.length_append, List.length_cons]; omega
    have hl15 : t.1.length ≤ 15 := Hl15.out
    have hl1 : 1 ≤ t.1.length := H1.out
    obtain ⟨n, hn⟩ : ∃ n, n = t.1.length := ⟨_, rfl⟩
    rw [hmp, ← hn] at d1
    rw [hka] at k0
    rw [← hn] at hl15 hile0 hBl hkb hl1
    have hiI : (i : Int) < (n : Int) + 1 := by omega
    have Het : Hid (t = ((A ++ B, ka ++ kk :: kb) : Nd It (h + 1))) := et
    have Hn : Hid (n = t.1.length) := hn
    have Hlo : Hid (∀ e ∈ A, Lo k e) := hAlo
    have Hhi : Hid (∀ e ∈ B, Hi k e) := hBhi
    have Hka : Hid (∀ x ∈ ka, x.ok ∧ 7 ≤ x.its.length) := fun x hx => hok x (hma x hx)
    have Hkb : Hid (∀ x ∈ kb, x.ok ∧ 7 ≤ x.its.length) := fun x hx => hok x (hmb x hx)
    have Hkk : Hid (7 ≤ kk.its.length ∧ kk.its.length ≤ 15) := ⟨hkk.2, hkks.1⟩
    have Hstep : Hid (∀ (w' : World) (k' : Nd It h) (Fk' : List Nat), NW h w' qk k' Fk' → Fits w1.heap.size Fk Fk' → Tch (fun i => i ∈ Fk) w1 w' → ∃ F', NWX h w' p (A ++ B) (ka ++ k' :: kb) F' s ∧ Fits w1.heap.size F F' ∧ Tch (fun i => i ∈ F) w1 w') := hstep
    have T01 : Hid (Tch (fun _ => False) w w1) := t1
    have Hso2 : Hid (Sorted (Nd.flat (h + 1) ((A ++ B, ka ++ kk :: kb) : Nd It (h + 1)))) := hso2
    clear hN1 hstep hq hnk hok hkk hkks hso2 hb2 et hA hB hAlo hBhi hF t1 hn hmp hmk hma hmb hP1 HIH
    go_wp2_with (go_at_call 51; refine q.mono ?_; rintro x w1' ⟨rfl, hwx⟩; subst hwx; clear q)
    clear d1 k0
    refine qp.mono ?_
    rintro x w3 ⟨k', Fk', old', th', rfl, nk', fk', tk', sk', lk', lk'', pr'⟩
    obtain ⟨F2, N2, fi2, tc2⟩ := Hstep.out w3 k' Fk' nk' fk' tk'
    have Hrel : Hid (RemRel k (Nd.flat (h + 1) t) (Nd.flat (h + 1) ((A ++ B, ka ++ k' :: kb) : Nd It (h + 1))) old' th') := by
      have := RemRel.kid pr' (hka.trans hAl.symm) Hlo.out Hhi.out Hso2.out
      rw [← Het.out] at this
      exact this
    obtain ⟨LL, hLL⟩ : ∃ LL, LL = A ++ B := ⟨_, rfl⟩
    rw [← hLL] at N2 Hrel
    have hLl : LL.length = n := by rw [hLL, List.length_append]; omega
    have hflen : (Nd.flat (h + 1) ((LL, ka ++ k' :: kb) : Nd It (h + 1))).length ≤ 1000000000000000000 := by
      have h8 := Hrel.out.len
      have := Hb.out
      split at h8 <;> omega
    have qm := mend_x h w3 p s LL ka kb k' F2 N2 (fi2.nod HNod.out) (by omega) (by omega) (by omega) (by have := Hkk.out.1; omega) (by have := Hkk.out.2; omega) sk' Hka.out Hkb.out hflen
    rw [hka] at qm
    have X2 : Hid (Fits w.heap.size F F2 ∧ Tch (fun i => i ∈ F) w w3) := ⟨fun b => by
      have := fi2 b
      have h4 := T01.out.size
      exact ⟨fun hb => this.1 (by omega), fun hb => fi2.nod HNod.out b⟩, (T01.out.mono (fun _ _ h => h.elim)).trans' tc2⟩
    clear N2 fi2 tc2 nk' fk' tk' pr' hLL hflen qp lk' lk'' sk' Hstep
    go_wp2_with fail
    refine qm.mono ?_
    rintro x w4 ⟨rfl, L', ts', F4, N4, fi4, tc4, sub4, fl4, le4, ge4⟩
    rw [hLl] at le4 ge4
    have X4 : Hid (NWX h w4 p L' ts' F4 s ∧ Fits w3.heap.size F2 F4 ∧ Tch (fun i => i ∈ F2) w3 w4 ∧ Nd.sub (h + 1) ((L', ts') : Nd It (h + 1)) ∧ Nd.flat (h + 1) ((L', ts') : Nd It (h + 1)) = Nd.flat (h + 1) ((LL, ka ++ k' :: kb) : Nd It (h + 1)) ∧ L'.length ≤ n ∧ n ≤ L'.length + 1) := ⟨N4, fi4, tc4, sub4, fl4, le4, ge4⟩
    clear N4 fi4 tc4 sub4 fl4 le4 ge4 qm
    cases th' with
    | true =>
      obtain ⟨c2, f2⟩ := X4.out.1.cells
      have hsb : s < 1000000000000000000 := by have := Hs.out; have := Hb.out; omega
      have hsb0 : 1 ≤ s := by
        have h8 := Hrel.out.len
        have := Hs.out
        simp only [if_true] at h8
        omega
      go_wp2_with fail
      go_ret2
      obtain ⟨N4, fi4, tc4, sub4, fl4, le4, ge4⟩ := X4.out
      obtain ⟨m1, m2⟩ := N4.setSz (fi4.nod (X2.out.1.nod HNod.out)) (s - 1)
      refine ⟨((L', ts') : Nd It (h + 1)), F4, old', true, rfl, ?_, X2.out.1.trans fi4 X2.out.2.size, ?_, sub4, ?_, ?_, ?_⟩
      · rw [NW_X]
        have e : ((Nd.flat (h + 1) ((L', ts') : Nd It (h + 1))).length : Int) = s - 1 := by
          have h8 := Hrel.out.len
          have := Hs.out
          simp only [if_true] at h8
          rw [fl4]
          omega
        rw [e]
        exact m1
      · refine (X2.out.2.trans tc4 (fun i hi hm => ?_)).trans m2 (fun i hi hm => ?_)
        · rcases X2.out.1.old hm with h6 | h6
          · exact h6
          · omega
        · rcases (X2.out.1.trans fi4 X2.out.2.size).old hm with h6 | h6
          · exact h6
          · omega
      · show L'.length ≤ t.1.length; have := Hn.out; omega
      · show t.1.length ≤ L'.length + 1; have := Hn.out; omega
      · rw [fl4]; exact Hrel.out
    | false =>
      go_wp2_with fail
      go_ret2
      obtain ⟨N4, fi4, tc4, sub4, fl4, le4, ge4⟩ := X4.out
      refine ⟨((L', ts') : Nd It (h + 1)), F4, old', false, rfl, ?_, X2.out.1.trans fi4 X2.out.2.size, ?_, sub4, ?_, ?_, ?_⟩
      · rw [NW_X]
        have e : ((Nd.flat (h + 1) ((L', ts') : Nd It (h + 1))).length : Int) = s := by
          have h8 := Hrel.out.len
          have := Hs.out
          simp at h8
          rw [fl4]
          omega
        rw [e]
        exact N4
      · refine X2.out.2.trans tc4 (fun i hi hm => ?_)
        rcases X2.out.1.old hm with h6 | h6
        · exact h6
        · omega
      · show L'.length ≤ t.1.length; have := Hn.out; omega
      · show t.1.length ≤ L'.length + 1; have := Hn.out; omega
      · rw [fl4]; exact Hrel.out
theorem rem_any : ∀ (h : Nat) (w : World) (p : Nat) (k : ByteArray) (t : Nd It h) (F : List Nat), NW h w p t F → Nod F → t.sub → t.its.length ≤ 15 → (0 < h → 1 ≤ t.its.length) → Sorted (t.flat h) → (t.flat h).length < 1000000000000000000 → Calls Try.prog 33 #[pv p, .string k] w (fun x w' => ∃ (t' : Nd It h) (F' : List Nat) (old : GV) (th : Bool), x = .returned (.tuple #[ev old, .bool th]) ∧ NW h w' p t' F' ∧ Fits w.heap.size F F' ∧ Tch (fun i => i ∈ F) w w' ∧ t'.sub ∧ t'.its.length ≤ t.its.length ∧ t.its.length ≤ t'.its.length + 1 ∧ RemRel k (t.flat h) (t'.flat h) old th)
  | 0, w, p, k, t, F, a, b, c, d, _, e, f => rem_leaf w p k t F a b c d e f
  | h + 1, w, p, k, t, F, a, b, c, d, g, e, f => rem_inner h w p k t F a b c d e f (fun w p t F a b c d g e f => rem_any h w p k t F a b c d (fun _ => g) e f) (g (Nat.succ_pos h))
end Go.Proofs.Ytnjiiebjdpipjaa
